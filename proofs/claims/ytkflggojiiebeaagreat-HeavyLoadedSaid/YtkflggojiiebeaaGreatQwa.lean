/- Texts that statements lean on, put together: GrdRef, GrdDef, GrdNew, GrdCode, GrdDoc, LinMath, SkCode, SkLawA, SkOne, ExaCode, LevRef, LevLoad, LevShr, Lvl, StkMid, StkLd, StkSame, StkPlN. -/
import Derived.Test.YtkflggojiiebeaaGreatQaa
import Derived.Test.YtkflggojiiebeaaGreatQab
import Derived.Test.YtkflggojiiebeaaGreatQac
import Derived.Test.YtkflggojiiebeaaGreatQad
import Derived.Test.YtkflggojiiebeaaGreatQae
import Derived.Test.YtkflggojiiebeaaGreatQaf
import Derived.Test.YtkflggojiiebeaaGreatQag
import Derived.Test.YtkflggojiiebeaaGreatQca
import Derived.Test.YtkflggojiiebeaaGreatQcb
import Derived.Test.YtkflggojiiebeaaGreatQcc
import Derived.Test.YtkflggojiiebeaaGreatQda
import Derived.Test.YtkflggojiiebeaaGreatQha
import Derived.Test.YtkflggojiiebeaaGreatQka
import Derived.Test.YtkflggojiiebeaaGreatQla
import Derived.Test.YtkflggojiiebeaaGreatQma
import Derived.Test.YtkflggojiiebeaaGreatQqa
import Derived.Test.YtkflggojiiebeaaGreatQra
import Derived.Test.YtkflggojiiebeaaGreatQsa
import Derived.Test.YtkflggojiiebeaaGreatQta
import Derived.Test.YtkflggojiiebeaaGreatRows
import Derived.WalkKit
import Derived.ProofKit
import Derived.OpenShut
import Derived.DataShut
import Derived.Lib.SmallJoins
import Derived.Handy
import Derived.WalkSmall
import Derived.Deep.Draws
import Derived.WalkSpells
import Derived.Laws.AppendOwnNone
import Derived.Deep.AppendLies
import Derived.Lib.Hide
import Derived.Deep.MidRow
import Derived.Laws.BitsAllLaws
import Derived.WalkMore
import Derived.Deep.LoopGhost
import Derived.Deep.RegionHeld3
import Derived.Deep.QuietTactic
import Derived.BigQuiet
import Derived.Laws.Cover3
import Derived.Shelf.Spec.BitsCarry
import Derived.Deep.RegionWith
import Derived.Laws.OwnMore
import Derived.Deep.DeepCutAuto
import Derived.Laws.EntriesVeiled
import Derived.Deep.CutRange
import Derived.RangeFuncNested
import Derived.RangeFuncBound
import Derived.RangeFuncCalls
import Derived.RangeFuncLeaves
import Derived.Maps.AppendAt
import Derived.Shelf.Abstract
import Derived.Shelf.RegionOpen
import Derived.OwnWalkIn
import Derived.TacticsInMore
import Derived.LoopNIn
import Derived.LoopIn
import Derived.RangeFuncBox
namespace Go.Proofs.YtkflggojiiebeaaGreat.Con
end Go.Proofs.YtkflggojiiebeaaGreat.Con
namespace Go.Proofs.YtkflggojiiebeaaGreat.Exa
end Go.Proofs.YtkflggojiiebeaaGreat.Exa
namespace Go.Proofs.YtkflggojiiebeaaGreat.Fld
end Go.Proofs.YtkflggojiiebeaaGreat.Fld
namespace Go.Proofs.YtkflggojiiebeaaGreat.Grd
end Go.Proofs.YtkflggojiiebeaaGreat.Grd
namespace Go.Proofs.YtkflggojiiebeaaGreat.Hsh
end Go.Proofs.YtkflggojiiebeaaGreat.Hsh
namespace Go.Proofs.YtkflggojiiebeaaGreat.Hvy
end Go.Proofs.YtkflggojiiebeaaGreat.Hvy
namespace Go.Proofs.YtkflggojiiebeaaGreat.Inn
end Go.Proofs.YtkflggojiiebeaaGreat.Inn
namespace Go.Proofs.YtkflggojiiebeaaGreat.Lev
end Go.Proofs.YtkflggojiiebeaaGreat.Lev
namespace Go.Proofs.YtkflggojiiebeaaGreat.Lin
end Go.Proofs.YtkflggojiiebeaaGreat.Lin
namespace Go.Proofs.YtkflggojiiebeaaGreat.Lw
end Go.Proofs.YtkflggojiiebeaaGreat.Lw
namespace Go.Proofs.YtkflggojiiebeaaGreat.Ord
end Go.Proofs.YtkflggojiiebeaaGreat.Ord
namespace Go.Proofs.YtkflggojiiebeaaGreat.Pcs
end Go.Proofs.YtkflggojiiebeaaGreat.Pcs
namespace Go.Proofs.YtkflggojiiebeaaGreat.Qnt
end Go.Proofs.YtkflggojiiebeaaGreat.Qnt
namespace Go.Proofs.YtkflggojiiebeaaGreat.Sed
end Go.Proofs.YtkflggojiiebeaaGreat.Sed
namespace Go.Proofs.YtkflggojiiebeaaGreat.Shp
end Go.Proofs.YtkflggojiiebeaaGreat.Shp
namespace Go.Proofs.YtkflggojiiebeaaGreat.Sk
end Go.Proofs.YtkflggojiiebeaaGreat.Sk
namespace Go.Proofs.YtkflggojiiebeaaGreat.Smr
end Go.Proofs.YtkflggojiiebeaaGreat.Smr
namespace Go.Proofs.YtkflggojiiebeaaGreat.Spn
end Go.Proofs.YtkflggojiiebeaaGreat.Spn
namespace Go.Proofs.YtkflggojiiebeaaGreat.Stk
end Go.Proofs.YtkflggojiiebeaaGreat.Stk
namespace Go.Proofs.YtkflggojiiebeaaGreat.Wid
end Go.Proofs.YtkflggojiiebeaaGreat.Wid
namespace Go.Proofs.YtkflggojiiebeaaGreat.Grd
open Go Go.RowKit Lw
set_option linter.unusedVariables false
def put2 (R : List Row) (row col n : Int) : List Row := if in2 (nums R) row col = true then set2 R row.toNat col.toNat n else R
theorem RF_put {b : Nat} {hdr : Value} {R : List Row} {row col n : Int} (k : Nat) : RF b hdr (put2 R row col n) k ↔ RF b hdr R k := by
  unfold RF put2
  split
  · have e : ∀ S : List Row, (∃ r ∈ S, r.1 = k) ↔ k ∈ S.map (·.1) := fun S => by simp
    rw [e, e, set2_bl]
  · exact Iff.rfl
end Go.Proofs.YtkflggojiiebeaaGreat.Grd

namespace Go.Proofs.YtkflggojiiebeaaGreat.Grd
open Go Go.RowKit Lw
set_option linter.unusedVariables false
theorem nums_put2 (R : List Row) (row col x : Int) : nums (put2 R row col x) = setL (nums R) row col x := by
  unfold put2 setL
  split
  · unfold nums set2
    apply List.ext_getElem?
    intro i
    rw [List.getElem?_map, List.getElem?_modify, List.getElem?_modify, List.getElem?_map]
    cases R[i]? <;> simp
    split <;> simp
  · rfl
theorem flat_dims {m n : Nat} {L : List (List Int)} (h : Dims m n L) : L.flatten.length = m * n := by
  have key : ∀ (L : List (List Int)), (∀ r ∈ L, r.length = n) → L.flatten.length = L.length * n := by
    intro L
    induction L with
    | nil => intro _; simp
    | cons r L ih =>
      intro hr
      rw [List.flatten_cons, List.length_append, ih (fun q hq => hr q (by simp [hq])), hr r (by simp), List.length_cons, Nat.succ_mul, Nat.add_comm]
  rw [key L (fun r hr => (h.rows r hr).1), h.len]
end Go.Proofs.YtkflggojiiebeaaGreat.Grd

namespace Go.Proofs.YtkflggojiiebeaaGreat.Grd
open Go Go.RowKit Lw
set_option linter.unusedVariables false
theorem flat_next (L : List (List Int)) (k : Nat) (zs : List Int) (h : L[k]? = some zs) : (L.take (k + 1)).flatten = (L.take k).flatten ++ zs := by
  obtain ⟨hk, e⟩ := List.getElem?_eq_some_iff.1 h
  rw [List.take_succ_eq_append_getElem hk, List.flatten_append, e]
  simp
theorem flat_len (L : List (List Int)) (k m : Nat) (h : ∀ zs ∈ L, zs.length ≤ m) : (L.take k).flatten.length ≤ k * m := by
  induction k with
  | zero => simp
  | succ k ih =>
    rcases Nat.lt_or_ge k L.length with h1 | h1
    · rw [flat_next L k _ (List.getElem?_eq_getElem h1), List.length_append, Nat.succ_mul]
      have := h _ (List.getElem_mem h1)
      omega
    · rw [List.take_of_length_le (by omega)]
      rw [List.take_of_length_le h1] at ih
      rw [Nat.succ_mul]
      omega
end Go.Proofs.YtkflggojiiebeaaGreat.Grd

namespace Go.Proofs.YtkflggojiiebeaaGreat.Grd
open Go Go.RowKit Lw
set_option linter.unusedVariables false
set_option linter.unusedSimpArgs false
theorem width_any (p : Addr) (F : Nat → Prop) (m n : Nat) (L : List (List Int)) (w : World) (h : PG w p F m n L) :
    Calls Tryz.prog 199 #[.pointer (some p)] w fun e w' => e = .returned (.int .i64 n) ∧ Below w.heap.size w w' :=
  (width_eq p F m n L w h).mono fun e w' h => ⟨h.1, h.2 ▸ Below.refl _ _⟩
theorem pg_drewN {w : World} {p : Addr} {F : Nat → Prop} {m n : Nat} {L : List (List Int)} (h : PG w p F m n L) (d : Nat) : PG (w.drewN d) p F m n L :=
  (pgT p F m n L).keep w _ (fun _ => False) h (Kept.of_below (below_drewN (Below.refl _ _) d)) (fun _ _ h => h)
end Go.Proofs.YtkflggojiiebeaaGreat.Grd

namespace Go.Proofs.YtkflggojiiebeaaGreat.Grd
open Go Go.RowKit Lw
set_option linter.unusedVariables false
theorem DG.sizes {R : List Row} {m n : Nat} (hd : Dims m n (nums R)) : R.length ≤ 8 ∧ (∀ r ∈ R, r.2.2.length ≤ 128) ∧ (∀ r ∈ R, In64 r.2.2) := by
  refine ⟨by rw [← nums_len, hd.len]; exact hd.m8, fun r hr => ?_, fun r hr => (hd.rows _ (nums_mem hr)).2⟩
  rw [(hd.rows _ (nums_mem hr)).1]
  exact hd.n128
end Go.Proofs.YtkflggojiiebeaaGreat.Grd

namespace Go.Proofs.YtkflggojiiebeaaGreat.Lin
open Go Go.RowKit Lw Grd
set_option linter.unusedVariables false
theorem sz_ext {m n : Nat} {L M : List (List Int)} (h : Sz m n L) (g : Sz m n M) (he : ∀ r c, r < m → c < n → cel L r c = cel M r c) : L = M := by
  apply List.ext_getElem (by rw [h.1, g.1])
  intro r h1 h2
  have a1 := h.2 _ (List.getElem_mem h1)
  have a2 := g.2 _ (List.getElem_mem h2)
  apply List.ext_getElem (by rw [a1, a2])
  intro c g1 g2
  have := he r c (by rw [← h.1]; exact h1) (by rw [← a1]; exact g1)
  unfold cel at this
  rw [List.getElem?_eq_getElem h1, List.getElem?_eq_getElem h2] at this
  simp only [Option.getD_some] at this
  rw [List.getElem?_eq_getElem g1, List.getElem?_eq_getElem g2] at this
  simpa using this
end Go.Proofs.YtkflggojiiebeaaGreat.Lin

namespace Go.Proofs.YtkflggojiiebeaaGreat.Sk
open Go Go.RowKit Lw Grd Lin Con Shp
set_option linter.unusedVariables false
set_option linter.unusedSimpArgs false
theorem div_at {j m n : Nat} (hn : 1 ≤ n) (hj : j < m * n) : (j / n) < m ∧ j % n < n ∧ (j / n) * n + j % n = j := by
  refine ⟨Nat.div_lt_of_lt_mul (by rw [Nat.mul_comm]; exact hj), Nat.mod_lt _ (by omega), ?_⟩
  rw [Nat.mul_comm]
  exact Nat.div_add_mod j n
set_option maxRecDepth 100000 in
set_option maxHeartbeats 4000000 in
theorem sload_yes (p : Addr) (F : Nat → Prop) (c : Cfg) (l : Int) (L : List (List Int)) (A : Option Addr) (N cap : Nat) (zs : List Int) (w : World) (h : SK w p F c l L) (hc : Rd .i64 w A zs) (hl : zs.length = N) (hN : N ≤ 100000) (hz : In64 zs) (hap : ∀ a, A = some a → ¬ F a.block) (he : N = rws c * wds c) :
    Calls Tryz.prog 209 #[.pointer (some p), .slice A N cap] w fun e w' => e = .returned (.bool true) ∧ ∃ F' L', SK w' p F' c l L' ∧ L'.flatten = zs ∧ Kept F w w' ∧ (∀ k, F' k → F k ∨ w.heap.size ≤ k) := by
  obtain ⟨hr, hok, hl0, hl1, b, gp, G, rfl, hb, hg, hGb, rfl⟩ := h
  have hbl := size_of_heap hb
  have c0w := grd_cell hb 0 (v := .pointer (some gp)) rfl
  have hrw := rws_bd hr
  have hwd := wds_bd hr
  obtain ⟨m, hm⟩ : ∃ m, rws c = m := ⟨_, rfl⟩
  obtain ⟨n, hn⟩ : ∃ n, wds c = n := ⟨_, rfl⟩
  rw [hm, hn] at hg
  rw [hm] at hrw
  rw [hn] at hwd
  have HP : Hid (∀ d, PG (w.drewN d) gp G m n L) := Lib.hid (fun d => pg_drewN hg d)
  obtain ⟨q, hq⟩ : ∃ q, q = m * n := ⟨_, rfl⟩
  have hqi : (m : Int) * n = (q : Int) := by rw [hq]; simp
  have hq1 : q ≤ 1024 := by rw [hq]; exact Nat.le_trans (Nat.mul_le_mul hrw.2.1 hwd.2.1) (by decide)
  have hNq : N = q := by rw [hq, ← hm, ← hn]; exact he
  subst hNq
  have hN1 : 1 ≤ N := by rw [hq]; exact Nat.mul_pos (by omega) (by omega)
  obtain ⟨a, rfl⟩ := hc.some_of (by omega)
  have HT : Hid (∀ w' G' L', PG w' gp G' m n L' → Kept G w w' → (∀ k, G' k → G k ∨ w.heap.size ≤ k) → ∃ F', SK w' ⟨b, 0, none⟩ F' c l L' ∧ Kept (fun k => k = b ∨ G k) w w' ∧ (∀ q, F' q → (q = b ∨ G q) ∨ w.heap.size ≤ q)) := Lib.hid (fun w' G' L' h1 h2 h3 => sk_turn hr hok hl0 hl1 hb hGb (by rw [hm, hn]; exact h1) h2 h3)
  have HG := Lib.hid hg
  have HC := Lib.hid hc
  have HL := Lib.hid hl
  have HZ := Lib.hid hz
  have HGB := Lib.hid hGb
  have hFL : L.flatten.length = N := by rw [flat_dims hg.1, hq]
  have HFL := Lib.hid hFL
  have HQ := Lib.hid hq
  have hn1 : 1 ≤ n := hwd.1
  have hm8 : m ≤ 8 := hrw.2.1
  have hn128 : n ≤ 128 := hwd.2.1
  have hnz : ((n : Int) == 0) = false := by simp; omega
  have hnz2 : ¬ (n : Int) = 0 := by omega
  have hnz3 : ¬ n = 0 := by omega
  have hapG : ¬ G a.block := fun hk => hap a rfl (.inr hk)
  clear hb hg hc hl hm hn hrw hwd hq hz hGb hFL hap he
  go_enter Tryz.func209, Tryz.ntmps209
  go_wp2
  go_quiet (first
    | (go_at_call 213; with_reducible refine Calls.quiet_of_same (rows_eq gp G m n L _ (HP.out _)))
    | (go_at_call 199; with_reducible refine Calls.quiet_of_same (width_eq gp G m n L _ (HP.out _))))
  all_goals go_wp2
  clear hqi
  go_loopw [23] (fun i wr => ∃ (j : Nat), j ≤ N ∧ i = .int .i64 j ∧ ∃ Gj Lj, PG wr gp Gj m n Lj ∧ Lj.flatten = upto2 L.flatten zs j ∧ Kept G w wr ∧ (∀ k, Gj k → G k ∨ w.heap.size ≤ k)) (fun i _ => N - (intOf i).toNat)
  case atStart => exact ⟨0, Nat.zero_le _, rfl, G, L, HP.out 1, by rw [upto2_start], (Kept.refl G w).drewN _, fun k hk => .inl hk⟩
  case round =>
    obtain ⟨j, hj, rfl, Gj, Lj, hpg, hfl, hk, hgj⟩ := hrel
    have HPj := Lib.hid hpg
    have HFj := Lib.hid hfl
    have HKj := Lib.hid hk
    have HGj := Lib.hid hgj
    clear hpg hfl hk hgj
    by_cases hlt : j < N
    · obtain ⟨z, hz⟩ : ∃ z, zs[j]? = some z := ⟨_, List.getElem?_eq_getElem (by rw [HL.out]; exact hlt)⟩
      have zb := HZ.out.at hz
      have c1 := HKj.out.cell (HC.out.at hz) (by have e : (a.add j).block = a.block := by { unfold Addr.add; split <;> rfl }
                                                 rw [e]; exact hapG)
      have c0 := HKj.out.cell c0w HGB.out
      obtain ⟨dv1, dv2, dv3⟩ := div_at (m := m) (n := n) (j := j) hn1 (HQ.out ▸ hlt)
      obtain ⟨r, hr9⟩ : ∃ r, r = j / n := ⟨_, rfl⟩
      obtain ⟨v, hv9⟩ : ∃ v, v = j % n := ⟨_, rfl⟩
      have tq : Int.tdiv (j : Int) n = r := by rw [hr9, Int.tdiv_eq_ediv_of_nonneg (by omega)]; rfl
      have tm : Int.tmod (j : Int) n = v := by rw [hv9, Int.tmod_eq_emod_of_nonneg (by omega)]; rfl
      have wr1 : IntKind.i64.wrap (r : Int) = r := IntWalk.i64_in _ ⟨by omega, by omega⟩
      have wv1 : IntKind.i64.wrap (v : Int) = v := IntWalk.i64_in _ ⟨by omega, by omega⟩
      rw [← hr9, ← hv9] at dv3
      rw [← hr9] at dv1
      rw [← hv9] at dv2
      clear hr9 hv9
      have HZ2 := Lib.hid hz
      have PT : Hid (∀ w', Below wr.heap.size wr w' → Calls Tryz.prog 200 #[.pointer (some gp), .int .i64 (r : Int), .int .i64 (v : Int), .int .i64 z] w' fun e w2 => (∃ b, e = .returned (.bool b)) ∧ ∃ G', PG w2 gp G' m n (setL Lj r v z) ∧ Kept G w w2 ∧ (∀ q, G' q → G q ∨ w.heap.size ≤ q)) := Lib.hid (fun w' hb2 => (put_any gp Gj m n Lj r v z w' (pg_up HPj.out hb2) (by omega) (by omega) (by omega) (by omega) zb.1 zb.2).mono (fun e w2 ⟨e1, G', h1, h2, h3⟩ => ⟨⟨_, e1⟩, G', h1, (HKj.out.then hb2).trans h2 (fun q hq h => (HGj.out q h).elim id (fun h4 => by omega)), fun q hq => (h3 q hq).elim (fun h4 => HGj.out q h4) (fun h4 => .inr (Nat.le_trans (HKj.out.then hb2).size h4))⟩))
      clear hz
      have WD : Hid (∀ w', Below wr.heap.size wr w' → Calls Tryz.prog 199 #[.pointer (some gp)] w' fun e w2 => e = .returned (.int .i64 n) ∧ w2 = w') := Lib.hid (fun w' hb2 => width_eq gp Gj m n Lj w' (pg_up HPj.out hb2))
      go_wp2
      go_region_held3 (fun w' => w'.cell? ⟨b, 0, none⟩ = some (.pointer (some gp))) (first | (with_reducible assumption) | (with_reducible refine cell_up c0 ?_ <;> (repeat' (first | (with_reducible first | exact Below.refl _ _ | assumption | refine below_over ?_ _ _ | refine Lw.below_alloc ?_ _ | refine Below.drew ?_ | refine below_drewN ?_ _ | refine Below.setCell ?_ ?_ _) | go_size)))) (first
        | (go_at_call 199; (with_reducible refine (WD.out _ (by (repeat' (first | (with_reducible first | exact Below.refl _ _ | assumption | refine below_over ?_ _ _ | refine Lw.below_alloc ?_ _ | refine Below.drew ?_ | refine below_drewN ?_ _ | refine Below.setCell ?_ ?_ _) | go_size)))).mono ?_); rintro e w' ⟨rfl, rfl⟩)
        | (go_at_call 200; (with_reducible refine (PT.out _ (by (repeat' (first | (with_reducible first | exact Below.refl _ _ | assumption | refine below_over ?_ _ _ | refine Lw.below_alloc ?_ _ | refine Below.drew ?_ | refine below_drewN ?_ _ | refine Below.setCell ?_ ?_ _) | go_size)))).mono ?_); rintro e w6 ⟨⟨bb, rfl⟩, G6, hp6, hk6, hf6⟩; have HP6 := Lib.hid hp6; have HK6 := Lib.hid hk6; have HF6 := Lib.hid hf6; have x0 : w6.cell? ⟨b, 0, none⟩ = some (.pointer (some gp)) := hk6.cell c0w HGB.out; clear hp6 hk6 hf6))
      all_goals go_wp2
      all_goals go_roundw
      case rel => exact ⟨j + 1, by omega, by go_num, G6, _, HP6.out, by rw [flat_put HPj.out.1 z (by omega) (by omega) (by omega) (by omega), HFj.out, Int.toNat_natCast, Int.toNat_natCast, dv3, upto2_set HFL.out HL.out HZ2.out], HK6.out, HF6.out⟩
      case measure => simp [intOf]; omega
    · have e : j = N := by omega
      subst e
      go_wp2
      go_ret
      obtain ⟨F', h1, h2, h3⟩ := HT.out _ _ _ HPj.out HKj.out HGj.out
      exact ⟨rfl, F', Lj, h1, by rw [HFj.out, upto2_end HFL.out HL.out], h2, h3⟩
end Go.Proofs.YtkflggojiiebeaaGreat.Sk

namespace Go.Proofs.YtkflggojiiebeaaGreat.Sk
open Go Go.RowKit Lw Grd Lin Con Shp
set_option linter.unusedVariables false
set_option linter.unusedSimpArgs false
set_option maxRecDepth 100000 in
theorem open_cfg_c : Tryz.prog.cellsOf 24 = 5 := by kernel_rfl
set_option maxRecDepth 100000 in
theorem open_cfg {H : Type} {enc : TypeId × Value → H} {w : World} {v : Value} {d : DataW H} {p : List MemPlace} {base : Nat} (hv : Value.okWide Tryz.prog w .any base 24 v)
    (h : DataW.Trod enc Tryz.prog w 0 (fun _ => true) true 24 v d p) :
    ∃ (x0 : Int) (x1 : Int) (x2 : Int) (x3 : Int) (x4 : Int), v = .agg #[.int .i64 x0, .int .i64 x1, .int .i64 x2, .int .i64 x3, .int .u64 x4] ∧ (-9223372036854775808 ≤ x0 ∧ x0 ≤ 9223372036854775807) ∧ (-9223372036854775808 ≤ x1 ∧ x1 ≤ 9223372036854775807) ∧ (-9223372036854775808 ≤ x2 ∧ x2 ≤ 9223372036854775807) ∧ (-9223372036854775808 ≤ x3 ∧ x3 ≤ 9223372036854775807) ∧ (0 ≤ x4 ∧ x4 ≤ 18446744073709551615) := by
  have hcs : ∃ cs : Array Value, v = .agg cs ∧ cs.size = Tryz.prog.cellsOf 24 := by
    simp only [Value.okWide, Tryz.underlying24] at hv
    obtain ⟨cs, h1, h2, _⟩ := hv
    exact ⟨cs, h1, h2⟩
  obtain ⟨⟨l⟩, rfl, hsz⟩ := hcs
  rw [open_cfg_c] at hsz
  obtain ⟨fuel, hf0⟩ := h
  obtain ⟨xs, k, _, _, _, hxl, hf⟩ := DataW.trod_struct Tryz.underlying24 hf0
  match xs, hxl, l, hsz with
  | [y0, y1, y2, y3, y4], _, [v0, v1, v2, v3, v4], _ =>
    have g0 := hf 0 _ rfl
    have g1 := hf 1 _ rfl
    have g2 := hf 2 _ rfl
    have g3 := hf 3 _ rfl
    have g4 := hf 4 _ rfl
    simp [Value.cells, show Tryz.prog.cellsOf 3 = 1 from by kernel_rfl, show Tryz.prog.cellsOf 22 = 1 from by kernel_rfl] at g0 g1 g2 g3 g4
    obtain ⟨x0, f0, _, w0⟩ := DataW.trod_int (show Tryz.prog.underlying 3 = some (.int .i64) by kernel_rfl) g0
    simp at f0
    subst f0
    obtain ⟨x1, f1, _, w1⟩ := DataW.trod_int (show Tryz.prog.underlying 3 = some (.int .i64) by kernel_rfl) g1
    simp at f1
    subst f1
    obtain ⟨x2, f2, _, w2⟩ := DataW.trod_int (show Tryz.prog.underlying 3 = some (.int .i64) by kernel_rfl) g2
    simp at f2
    subst f2
    obtain ⟨x3, f3, _, w3⟩ := DataW.trod_int (show Tryz.prog.underlying 3 = some (.int .i64) by kernel_rfl) g3
    simp at f3
    subst f3
    obtain ⟨x4, f4, _, w4⟩ := DataW.trod_int (show Tryz.prog.underlying 22 = some (.int .u64) by kernel_rfl) g4
    simp at f4
    subst f4
    exact ⟨x0, x1, x2, x3, x4, rfl, Lw.wf_i64 w0, Lw.wf_i64 w1, Lw.wf_i64 w2, Lw.wf_i64 w3, Lw.wf_u64 w4⟩
end Go.Proofs.YtkflggojiiebeaaGreat.Sk

namespace Go.Proofs.YtkflggojiiebeaaGreat.Sk
open Go Go.RowKit Lw Grd Lin Con Shp
set_option linter.unusedVariables false
set_option linter.unusedSimpArgs false
theorem sz_of_dims {m n : Nat} {L : List (List Int)} (h : Dims m n L) : Sz m n L := ⟨h.len, fun r hr => (h.rows r hr).1⟩
theorem cel_flat {m n : Nat} {L : List (List Int)} (h : Sz m n L) {r q : Nat} (hr : r < m) (hq : q < n) : cel L r q = (L.flatten[r * n + q]?).getD 0 := by
  rw [flat_get r q h.2 (by rw [h.1]; exact hr) hq]
  rfl
end Go.Proofs.YtkflggojiiebeaaGreat.Sk

namespace Go.Proofs.YtkflggojiiebeaaGreat.Exa
open Go Go.RowKit Lw Grd Lin Con Shp Sk
set_option linter.unusedVariables false
set_option linter.unusedSimpArgs false
set_option maxRecDepth 100000 in
set_option maxHeartbeats 4000000 in
theorem eload_yes (p : Addr) (F : Nat → Prop) (c : Cfg) (l : Int) (L : List Int) (A : Option Addr) (N cap : Nat) (zs : List Int) (w : World) (h : EX w p F c l L) (hc : Rd .i64 w A zs) (hl : zs.length = N) (hz : In64 zs) (hap : ∀ a, A = some a → ¬ F a.block) (he : N = L.length) :
    Calls Tryz.prog 195 #[.pointer (some p), .slice A N cap] w fun e w' => e = .returned (.bool true) ∧ ∃ F', EX w' p F' c l zs ∧ Kept F w w' ∧ (∀ k, F' k → F k ∨ w.heap.size ≤ k) := by
  obtain ⟨hr, hok, hl0, hl1, hlk, hn1, hn8, b, gp, G, rfl, hb, hg, hGb, rfl⟩ := h
  have hbl := size_of_heap hb
  have c0w := grd_cell hb 0 (v := .pointer (some gp)) rfl
  have WD := Lib.hid (width_any gp G 1 L.length [L] w hg)
  subst he
  obtain ⟨a, rfl⟩ := hc.some_of (by omega)
  have HT : Hid (∀ w' G', PG w' gp G' 1 L.length [zs] → Kept G w w' → (∀ k, G' k → G k ∨ w.heap.size ≤ k) → ∃ F', EX w' ⟨b, 0, none⟩ F' c l zs ∧ Kept (fun k => k = b ∨ G k) w w' ∧ (∀ q, F' q → (q = b ∨ G q) ∨ w.heap.size ≤ q)) := Lib.hid (fun w' G' h1 h2 h3 => ex_turn hr hok hl0 hl1 hlk hn1 hn8 hb hGb hl h1 h2 h3)
  have HG := Lib.hid hg
  have HC := Lib.hid hc
  have HL := Lib.hid hl
  have HZ := Lib.hid hz
  have HGB := Lib.hid hGb
  have hapG : ¬ G a.block := fun hk => hap a rfl (.inr hk)
  obtain ⟨N, hN⟩ : ∃ N, L.length = N := ⟨_, rfl⟩
  have HN := Lib.hid hN
  rw [hN] at WD HT HG HL hn8 ⊢
  clear hb hg hc hl hz hGb hap hlk hN hn1
  go_enter Tryz.func195, Tryz.ntmps195
  go_wp2_with (go_at_call 199; (with_reducible refine (WD.out).mono ?_); rintro e w1 ⟨rfl, hb9⟩; have HB1 := Lib.hid hb9; clear hb9)
  go_loopw [17] (fun i wr => ∃ (j : Nat), j ≤ N ∧ i = .int .i64 j ∧ ∃ Gj, PG wr gp Gj 1 N [upto2 L zs j] ∧ Kept G w wr ∧ (∀ k, Gj k → G k ∨ w.heap.size ≤ k)) (fun i _ => N - (intOf i).toNat)
  case atStart => exact ⟨0, Nat.zero_le _, rfl, G, by rw [upto2_start]; exact pg_up HG.out HB1.out, Kept.of_below HB1.out, fun k hk => .inl hk⟩
  case round =>
    obtain ⟨j, hj, rfl, Gj, hpg, hk, hgj⟩ := hrel
    have HPj := Lib.hid hpg
    have HKj := Lib.hid hk
    have HGj := Lib.hid hgj
    clear hpg hk hgj
    by_cases hlt : j < N
    · obtain ⟨z, hz⟩ : ∃ z, zs[j]? = some z := ⟨_, List.getElem?_eq_getElem (by rw [HL.out]; exact hlt)⟩
      have zb := HZ.out.at hz
      have c1 := HKj.out.cell (HC.out.at hz) (by have e : (a.add j).block = a.block := by { unfold Addr.add; split <;> rfl }
                                                 rw [e]; exact hapG)
      have c0 := HKj.out.cell c0w HGB.out
      have HZ2 := Lib.hid hz
      have hlu : (upto2 L zs j).length = N := by rw [upto2_len HN.out HL.out (by omega)]
      have PT : Hid (Calls Tryz.prog 200 #[.pointer (some gp), .int .i64 0, .int .i64 (j : Int), .int .i64 z] wr fun e w2 => (∃ b, e = .returned (.bool b)) ∧ ∃ G', PG w2 gp G' 1 N [upto2 L zs (j + 1)] ∧ Kept G w w2 ∧ (∀ q, G' q → G q ∨ w.heap.size ≤ q)) := Lib.hid ((put_any gp Gj 1 N [upto2 L zs j] 0 j z wr HPj.out (by omega) (by omega) (by omega) (by omega) zb.1 zb.2).mono (fun e w2 ⟨e1, G', h1, h2, h3⟩ => ⟨⟨_, e1⟩, G', by rw [set_one _ (by omega) (by omega) z, Int.toNat_natCast, upto2_set HN.out HL.out HZ2.out] at h1; exact h1, HKj.out.trans h2 (fun q hq h => (HGj.out q h).elim id (fun h4 => by omega)), fun q hq => (h3 q hq).elim (fun h4 => HGj.out q h4) (fun h4 => .inr (Nat.le_trans HKj.out.size h4))⟩))
      clear hz hlu
      go_wp2_with (go_at_call 200; (with_reducible refine (PT.out).mono ?_); rintro e w6 ⟨⟨bb, rfl⟩, G6, hp6, hk6, hf6⟩; have HP6 := Lib.hid hp6; have HK6 := Lib.hid hk6; have HF6 := Lib.hid hf6; clear hp6 hk6 hf6)
      go_roundw
      case rel => exact ⟨j + 1, by omega, by go_num, G6, HP6.out, HK6.out, HF6.out⟩
      case measure => simp [intOf]; omega
    · have e : j = N := by omega
      subst e
      go_wp2
      go_ret
      exact ⟨rfl, HT.out _ _ (by have := HPj.out; rw [upto2_end HN.out HL.out] at this; exact this) HKj.out HGj.out⟩
end Go.Proofs.YtkflggojiiebeaaGreat.Exa

namespace Go.Proofs.YtkflggojiiebeaaGreat.Lev
open Go Go.RowKit Lw Grd Lin Con Shp Sk Exa
set_option linter.unusedVariables false
set_option linter.unusedSimpArgs false
set_option maxRecDepth 100000 in
set_option maxHeartbeats 4000000 in
theorem lcells_A (p : Addr) (F : Nat → Prop) (c : Cfg) (l : Int) (L : List Int) (w : World) (h : DLA w p F c l L) :
    Calls Tryz.prog 23 #[.pointer (some p)] w fun e w' => ∃ (g cap : Nat), e = .returned (.slice (some ⟨g, 0, none⟩) L.length cap) ∧ Ord.Mid w' g 0 L ∧ w.heap.size ≤ g ∧ L.length ≤ cap ∧ cap ≤ maxLen ∧ Below w.heap.size w w' := by
  obtain ⟨i0, hi, hz0, hz1, hz2⟩ := info_parts Exa.i64_info
  obtain ⟨a, G, b, rfl, hb, ht, hn, rfl⟩ := h
  have c0 := grd_cell hb 0 (v := .pointer (some a)) rfl
  have c1 := grd_cell hb 1 (v := .pointer none) rfl
  obtain ⟨h1, h2, h3, ba, g, cap, rfl, hba, hm, h4, h5, h6, rfl⟩ := daI ht
  have e6 := grd_cell hba 6 (v := .slice (some ⟨g, 0, none⟩) L.length cap) rfl
  have hbl := size_of_heap hba
  have hbl2 := size_of_heap hb
  have HM := Lib.hid hm
  unfold maxLen at h5
  clear hb ht hn hba hm h1 h3
  go_enter Tryz.func23, Tryz.ntmps23
  go_wp2_with (at_builtin; go_must (refine app_any .i64 rfl _ _ 54 rfl w.heap.size 2 i0 8 Exa.i64s_u hi hz0 hz1 hz2 (.slice (some ⟨w.heap.size, 0, none⟩) 0 0) 0 [] rfl (own_empty w _ _ _ (Nat.le_refl _)) (fun h => by cases h) (some ⟨g, 0, none⟩) L.length cap L rfl (fun h => by cases h) rfl (HM.out.rd.up (by repeat' (first | (with_reducible first | exact Below.refl _ _ | assumption | refine below_over ?_ _ _ | refine Lw.below_alloc ?_ _ | refine Below.drew ?_ | refine below_drewN ?_ _ | refine Below.setCell ?_ ?_ _) | go_size))) (by unfold maxLen; omega) (by omega) (by simp) ?_); intro A2 cap2 w6 hown2 hgrow2 rd2 hc2 hc3; have hb6 := app_below hgrow2 (Nat.le_refl _); rw [List.nil_append] at hown2; (try simp only [Nat.zero_add] at hown2 hc2); (try simp only [Nat.zero_add]); obtain ⟨g2, hA9, hg2, hm2⟩ := Ord.mid_own hown2; subst hA9; have HM2 := Lib.hid hm2; have H2 := Lib.hid (And.intro hc2 (And.intro hc3 hg2)); have HB6 := Lib.hid hb6; clear hown2 hgrow2 rd2 hc2 hc3 hb6 hg2 hm2)
  go_ret
  exact ⟨g2, cap2, rfl, HM2.out, H2.out.2.2, H2.out.1, H2.out.2.1, HB6.out⟩
end Go.Proofs.YtkflggojiiebeaaGreat.Lev

namespace Go.Proofs.YtkflggojiiebeaaGreat.Lev
open Go Go.RowKit Lw Grd Lin Con Shp Sk Exa
set_option linter.unusedVariables false
set_option linter.unusedSimpArgs false
set_option maxRecDepth 100000 in
set_option maxHeartbeats 4000000 in
theorem lload_A (p : Addr) (F : Nat → Prop) (c : Cfg) (l : Int) (L : List Int) (ad : Addr) (n capz : Nat) (zs : List Int) (w : World) (h : DLA w p F c l L) (hrd : Rd .i64 w (some ad) zs) (hl : zs.length = n) (hz : In64 zs) (hn : n ≤ 128) :
    Calls Tryz.prog 24 #[.pointer (some p), .slice (some ad) n capz] w fun e w' => e = .returned (.tuple #[]) ∧ ∃ F', DLA w' p F' c l zs ∧ Kept F w w' ∧ (∀ k, F' k → F k ∨ w.heap.size ≤ k) := by
  obtain ⟨i0, hi, hz0, hz1, hz2⟩ := info_parts Exa.i64_info
  obtain ⟨a, G, b, rfl, hb, ht, hnb, rfl⟩ := h
  have c0 := grd_cell hb 0 (v := .pointer (some a)) rfl
  obtain ⟨h1, h2, h3, ba, g, cap, rfl, hba, hm, h4, h5, h6, rfl⟩ := daI ht
  have f6 := grd_cell hba 6 (v := .slice (some ⟨g, 0, none⟩) L.length cap) rfl
  have hne1 : ¬ b = ba := fun e => hnb (.inl e)
  have hne2 : ¬ ba = b := fun e => hne1 e.symm
  have hbl := size_of_heap hb
  have hal := size_of_heap hba
  have HRD := Lib.hid hrd
  have HBA := Lib.hid hba
  have HFZ : Hid (∀ w', Below w.heap.size w w' → w'.frozen? ⟨ba, 6, none⟩ = false) := Lib.hid (fun w' hbw => by
    have := (Kept.of_below (F := fun _ => False) hbw).heap HBA.out (fun h => h)
    exact boxs_frozen (e := 138) (vs := #[.int .i64 c.bt, .int .i64 c.rw, .int .i64 c.wd, .int .i64 c.md, .int .u64 c.sd, .int .i64 l, .slice (some ⟨g, 0, none⟩) L.length cap]) this 6)
  have HT : Hid (∀ w' g4 cap4, Below w.heap.size w w' → Ord.Mid w' g4 0 zs → w.heap.size ≤ g4 → n ≤ cap4 → cap4 ≤ maxLen → ∃ F', DLA (w'.setCell ⟨ba, 6, none⟩ (.slice (some ⟨g4, 0, none⟩) n cap4)) ⟨b, 0, none⟩ F' c l zs ∧ Kept (fun k => k = b ∨ (daT ⟨ba, 0, none⟩ (fun k => k = ba ∨ k = g) c l L).F k) w (w'.setCell ⟨ba, 6, none⟩ (.slice (some ⟨g4, 0, none⟩) n cap4)) ∧ (∀ q, F' q → (q = b ∨ (daT ⟨ba, 0, none⟩ (fun k => k = ba ∨ k = g) c l L).F q) ∨ w.heap.size ≤ q)) := Lib.hid (fun w' g4 cap4 hbw hm4 hg4 hc1 hc2 => by
    have hB := (Kept.of_below (F := fun _ => False) hbw).heap HBA.out (fun h => h)
    have hs := boxs_set (e := 138) (vs := #[.int .i64 c.bt, .int .i64 c.rw, .int .i64 c.wd, .int .i64 c.md, .int .u64 c.sd, .int .i64 l, .slice (some ⟨g, 0, none⟩) L.length cap]) hB 6 (.slice (some ⟨g4, 0, none⟩) n cap4)
    have hk : Kept (fun q => q = ba) w' (w'.setCell ⟨ba, 6, none⟩ (.slice (some ⟨g4, 0, none⟩) n cap4)) := (Kept.refl (fun q => q = ba) w').set (.inl rfl) _ _
    have hda : DA (w'.setCell ⟨ba, 6, none⟩ (.slice (some ⟨g4, 0, none⟩) n cap4)) ⟨ba, 0, none⟩ (fun k => k = ba ∨ k = g4) c l zs := by
      refine ⟨h1, by omega, hz, ba, g4, cap4, rfl, ?_, hm4.keep hk (fun e => by omega), by omega, hc2, by omega, rfl⟩
      rw [hl]
      exact hs
    have hkk : Kept (daT ⟨ba, 0, none⟩ (fun k => k = ba ∨ k = g) c l L).F w (w'.setCell ⟨ba, 6, none⟩ (.slice (some ⟨g4, 0, none⟩) n cap4)) := (Kept.of_below hbw).trans (hk.mono (fun q _ e => .inl e)) (fun q hq e => e)
    obtain ⟨F', g1, g2, g3⟩ := dl_turn (t := daT ⟨ba, 0, none⟩ (fun k => k = ba ∨ k = g) c l L) (t' := daT ⟨ba, 0, none⟩ (fun k => k = ba ∨ k = g4) c l zs) hb hnb hda hkk (fun q hq => by
      rcases hq with h | h
      · exact .inl (.inl h)
      · exact .inr (by omega))
    exact ⟨F', ⟨_, _, g1⟩, g2, g3⟩)
  clear hb ht hnb hba hm h1 h3 h4 h5 h6 hz hrd HBA
  go_enter Tryz.func24, Tryz.ntmps24
  go_upto_region 1 with fail
  go_region_held3 (fun w' => w'.cell? ⟨b, 0, none⟩ = some (.pointer (some ⟨ba, 0, none⟩))) (first | (with_reducible assumption) | (with_reducible exact y9 _) | (with_reducible refine cell_up c0 ?_ <;> (repeat' (first | (with_reducible first | exact Below.refl _ _ | assumption | refine below_over ?_ _ _ | refine Lw.below_alloc ?_ _ | refine Below.drew ?_ | refine below_drewN ?_ _ | refine Below.setCell ?_ ?_ _) | go_size)))) (first
    | (refine app_step .i64 rfl _ _ 54 rfl w.heap.size 2 i0 8 Exa.i64s_u hi hz0 hz1 hz2 (.slice (some ⟨w.heap.size, 0, none⟩) 0 0) 0 [] rfl (own_empty w.drew _ _ _ (Nat.le_refl _)) (fun h => by cases h) (some ad) n capz zs rfl (fun h => by cases h) hl (HRD.out.up (by repeat' (first | (with_reducible first | exact Below.refl _ _ | assumption | refine below_over ?_ _ _ | refine Lw.below_alloc ?_ _ | refine Below.drew ?_ | refine below_drewN ?_ _ | refine Below.setCell ?_ ?_ _) | go_size))) (by unfold maxLen; omega) (by omega) (by simp) ?_; intro A4 cap4 w4 hown4 hgrow4 hrd4 hcap6 hcap7; have hb4 : Below w.heap.size w w4 := app_below2 (by repeat' (first | (with_reducible first | exact Below.refl _ _ | assumption | refine below_over ?_ _ _ | refine Lw.below_alloc ?_ _ | refine Below.drew ?_ | refine below_drewN ?_ _ | refine Below.setCell ?_ ?_ _) | go_size)) hgrow4 (Nat.le_refl _); (try simp only [Nat.zero_add, List.nil_append] at hown4 hcap6); (try simp only [Nat.zero_add]); have y0 := cell_up c0 hb4; have y6 := cell_up f6 hb4; have z6 := HFZ.out w4 hb4; have y9 : ∀ v, (w4.setCell ⟨ba, 6, none⟩ v).cell? ⟨b, 0, none⟩ = some (.pointer (some ⟨ba, 0, none⟩)) := fun v => ((Kept.refl (fun q => q = ba) w4).set (.inl rfl) 6 v).cell y0 hne1; have HO4 := Lib.hid hown4; have HB4 := Lib.hid hb4; have HC4 := Lib.hid (And.intro hcap6 hcap7); clear hown4 hgrow4 hrd4 hcap6 hcap7))
  all_goals go_wp2
  all_goals refine bodyPost_ret (results_none rfl _ _ _) rfl ?_
  all_goals (obtain ⟨g4, hA4, hg4, hm4⟩ := Ord.mid_own HO4.out)
  all_goals subst hA4
  all_goals exact ⟨rfl, HT.out w4 g4 cap4 HB4.out hm4 hg4 HC4.out.1 HC4.out.2⟩
set_option maxRecDepth 100000 in
set_option maxHeartbeats 8000000 in
theorem lload_S (p : Addr) (F : Nat → Prop) (c : Cfg) (l : Int) (L : List (List Int)) (ad : Addr) (N capz : Nat) (zs : List Int) (w : World) (h : DLS w p F c l L) (hrd : Rd .i64 w (some ad) zs) (hl : zs.length = N) (hz : In64 zs) (hn : N = rws c * wds c) (hap : ¬ F ad.block) :
    Calls Tryz.prog 24 #[.pointer (some p), .slice (some ad) N capz] w fun e w' => e = .returned (.tuple #[]) ∧ ∃ F' L', DLS w' p F' c l L' ∧ L'.flatten = zs ∧ Kept F w w' ∧ (∀ k, F' k → F k ∨ w.heap.size ≤ k) := by
  obtain ⟨a, G0, b, rfl, hb, ht, hnb, rfl⟩ := h
  have c0w := grd_cell hb 0 (v := .pointer none) rfl
  have c1w := grd_cell hb 1 (v := .pointer (some a)) rfl
  obtain ⟨hr, hok, hl0, hl1, bs, gp, G, rfl, hbs, hg, hGb, rfl⟩ := dsI ht
  have e6w := grd_cell hbs 6 (v := .pointer (some gp)) rfl
  have hbl := size_of_heap hb
  have hsl := size_of_heap hbs
  obtain ⟨m, hmm⟩ : ∃ m, rws c = m := ⟨_, rfl⟩
  obtain ⟨n, hnn⟩ : ∃ n, wds c = n := ⟨_, rfl⟩
  have hm8 : 1 ≤ m ∧ m ≤ 8 := by have := rws_bd hr; omega
  have hn8 : 1 ≤ n ∧ n ≤ 128 := by have := wds_bd hr; omega
  have hGbb : ¬ G b := fun h => hnb (.inr h)
  have hGs : ¬ G bs := hGb
  have hGa : ¬ G ad.block := fun h => hap (.inr (.inr h))
  have HT : Hid (∀ w' L', DG w' gp G m n L' → Kept G w w' → ∃ F', DLS w' ⟨b, 0, none⟩ F' c l L' ∧ Kept (fun k => k = b ∨ (dsT ⟨bs, 0, none⟩ (fun k => k = bs ∨ G k) c l L).F k) w w' ∧ (∀ q, F' q → (q = b ∨ (dsT ⟨bs, 0, none⟩ (fun k => k = bs ∨ G k) c l L).F q) ∨ w.heap.size ≤ q)) := Lib.hid (fun w' L' h1 h2 => by
    have hds : DS w' ⟨bs, 0, none⟩ (fun k => k = bs ∨ G k) c l L' := ⟨hr, hok, hl0, hl1, bs, gp, G, rfl, h2.heap hbs hGb, by rw [hmm, hnn]; exact h1, hGb, rfl⟩
    obtain ⟨F', g1, g2, g3⟩ := dl_turn (t := dsT ⟨bs, 0, none⟩ (fun k => k = bs ∨ G k) c l L) (t' := dsT ⟨bs, 0, none⟩ (fun k => k = bs ∨ G k) c l L') hb hnb hds (h2.mono (fun q _ e => .inr e)) (fun q hq => .inl hq)
    exact ⟨F', ⟨_, _, g1⟩, g2, g3⟩)
  rw [hmm, hnn] at hg hn
  have HG := Lib.hid hg
  have HR := Lib.hid hrd
  have HL := Lib.hid hl
  have HZ := Lib.hid hz
  have HN := Lib.hid hn
  have HFL : Hid (L.flatten.length = N) := Lib.hid (by rw [flat_dims hg.dims, hn])
  have hN1 : N ≤ 1024 := by rw [hn]; exact Nat.le_trans (Nat.mul_le_mul hm8.2 hn8.2) (by decide)
  obtain ⟨gb, hdr, R0, hgp, hg1, hg2, hg3, hg4⟩ := hg
  subst hgp
  clear hb ht hnb hbs hr hok hl0 hl1 hrd hl hz hn hap hGb hg1 hg2 hg3 hg4 hmm hnn
  go_enter Tryz.func24, Tryz.ntmps24
  go_wp2
  go_loopw [4, 5] (fun av iv wr => ∃ (r : Nat) (Lj : List (List Int)), r ≤ m ∧ av = .int .i64 ((r * n : Nat) : Int) ∧ iv = .int .i64 r ∧ DG wr ⟨gb, 0, none⟩ G m n Lj ∧ Lj.flatten = upto2 L.flatten zs (r * n) ∧ Kept G w wr) (fun _ iv _ => m - (intOf iv).toNat)
  case atStart => exact ⟨0, L, Nat.zero_le _, by simp, rfl, HG.out, by rw [Nat.zero_mul, upto2_start], Kept.refl G w⟩
  case round =>
    obtain ⟨r, Lj, hrm, rfl, rfl, hdg, hfl, hk⟩ := hrel
    have HK := Lib.hid hk
    have HFJ := Lib.hid hfl
    have HD := Lib.hid hdg
    have c0 := hk.cell c0w hGbb
    have c1 := hk.cell c1w hGbb
    have e6 := hk.cell e6w hGs
    obtain ⟨gb', hdr', R, hgp, hg1, hg2, hg3, hg4⟩ := hdg
    injection hgp with hgp
    subst hgp
    obtain ⟨A, cap, hhd, hcap, hA, hcell⟩ := hg1.hd
    have hb0 := cell_of_row wr gb 0 _ _ _ hg1.cell
    rw [hhd] at hb0
    simp only [List.getElem?_toArray, List.getElem?_cons_zero] at hb0
    have hRl : R.length = m := by rw [← nums_len, hg2, hg4.len]
    rw [hRl] at hb0
    clear hhd hcell hA hg1 hg2 hg3 hg4 hRl hfl hk hcap
    by_cases hlt : r < m
    · have hlti : (r : Int) < (m : Int) := by omega
      go_wp2
      obtain ⟨wo, rfl⟩ : ∃ wo, wo = wr := ⟨_, rfl⟩
      clear c0 c1 e6 hb0
      go_loopw [4, 6] (fun av cv wi => ∃ (q : Nat) (Lj : List (List Int)), q ≤ n ∧ av = .int .i64 ((r * n + q : Nat) : Int) ∧ cv = .int .i64 q ∧ DG wi ⟨gb, 0, none⟩ G m n Lj ∧ Lj.flatten = upto2 L.flatten zs (r * n + q) ∧ Kept G w wi) (fun _ cv _ => n - (intOf cv).toNat)
      case atStart => exact ⟨0, Lj, Nat.zero_le _, by simp, rfl, HD.out, HFJ.out, HK.out⟩
      case round =>
        clear HD HFJ HK
        obtain ⟨q, Lk, hqn, rfl, rfl, hdg, hfl, hk⟩ := hrel
        have HK := Lib.hid hk
        have HFK := Lib.hid hfl
        have HD := Lib.hid hdg
        have c0 := hk.cell c0w hGbb
        have c1 := hk.cell c1w hGbb
        have e6 := hk.cell e6w hGs
        obtain ⟨gb', hdr', R, hgp, hg1, hg2, hg3, hg4⟩ := hdg
        injection hgp with hgp
        subst hgp
        obtain ⟨A, cap, hhd, hcap, hA, hcell⟩ := hg1.hd
        have hb0 := cell_of_row wr gb 0 _ _ _ hg1.cell
        rw [hhd] at hb0
        simp only [List.getElem?_toArray, List.getElem?_cons_zero] at hb0
        have hRl : R.length = m := by rw [← nums_len, hg2, hg4.len]
        obtain ⟨ro, hro⟩ : ∃ ro, R[r]? = some ro := ⟨_, List.getElem?_eq_getElem (by omega)⟩
        obtain ⟨ad2, rfl, hcr⟩ := hcell r ro hro
        have hrom := List.mem_of_getElem? hro
        have hrl : ro.2.2.length = n := by have := (hg4.rows ro.2.2 (by rw [← hg2]; exact nums_mem hrom)).1; exact this
        rw [hRl] at hb0
        have hput := hg1.put hro
        have hnum : ∀ v, ro.2.2[q]? = some v → wr.cell? ⟨ro.1, q, none⟩ = some (.int .i64 v) := fun v hv => by
          have := hg1.numAt hrom hv
          rwa [Ord.add_at, Nat.zero_add] at this
        have hfz0 : wr.frozen? ⟨ro.1, q, none⟩ = false := by
          have := (hg1.rows _ hrom).frozenAt (g := ro.1) (cap := ro.2.1) q
          exact this
        have hin2 : q < n → in2 (nums R) r q = true := fun h => by
          unfold in2
          have hget : (nums R)[(r : Int).toNat]?.getD [] = ro.2.2 := by simp [nums, hro]
          rw [hget, nums_len]
          exact decide_eq_true (by omega)
        have HPUT : Hid (q < n → ∀ z, -9223372036854775808 ≤ z → z ≤ 9223372036854775807 → DG (wr.setCell ⟨ro.1, q, none⟩ (.int .i64 z)) ⟨gb, 0, none⟩ G m n (setL Lk r q z) ∧ Kept G w (wr.setCell ⟨ro.1, q, none⟩ (.int .i64 z))) := Lib.hid (fun hq z z0 z1 => by
          have hp : put2 R r q z = set2 R r q z := by unfold put2; rw [if_pos (hin2 hq), Int.toNat_natCast, Int.toNat_natCast]
          refine ⟨⟨gb, _, put2 R r q z, rfl, by rw [hp]; exact hput q z, by rw [nums_put2, hg2], fun k => (hg3 k).trans (RF_put k).symm, hg4.set r q z0 z1⟩, hk.trans ((Kept.refl G wr).set (.inl ((hg3 _).2 (.inr (.inr ⟨_, hrom, rfl⟩)))) q _) (fun x _ e => e)⟩)
        unfold rowHd at hcr
        rw [hrl] at hcr
        obtain ⟨g, gc, xs⟩ := ro
        simp only at hcr hnum hfz0 HPUT hrl
        obtain ⟨gad, hgad⟩ : ∃ gad : Addr, (⟨g, 0, none⟩ : Addr) = gad := ⟨_, rfl⟩
        have hga2 : (⟨g, q, none⟩ : Addr) = gad.add q := by rw [← hgad, Ord.add_at, Nat.zero_add]
        rw [hgad] at hcr
        rw [hga2] at hfz0 HPUT
        have HNUM := Lib.hid hnum
        have HGA := Lib.hid hga2
        have HRL := Lib.hid hrl
        clear hhd hcell hA hg1 hg2 hg3 hg4 hRl hfl hk hcap hro hrom hput hnum hin2 hgad hga2 hrl
        by_cases hlq : q < n
        · have hlt9 : r * n + q < N := by
            rw [HN.out]
            have := Nat.mul_le_mul_right n (show r + 1 ≤ m by omega)
            rw [Nat.succ_mul] at this
            omega
          obtain ⟨z, hz⟩ : ∃ z, zs[r * n + q]? = some z := ⟨_, List.getElem?_eq_getElem (by rw [HL.out]; exact hlt9)⟩
          have zb := HZ.out.at hz
          have hcz := HK.out.cell (HR.out.at hz) (by have e : (ad.add (r * n + q)).block = ad.block := by { unfold Addr.add; split <;> rfl }
                                                     rw [e]; exact hGa)
          obtain ⟨v, hv⟩ : ∃ v, xs[q]? = some v := ⟨_, List.getElem?_eq_getElem (by rw [HRL.out]; exact hlq)⟩
          have hcv := HNUM.out v hv
          rw [HGA.out] at hcv
          have HPZ := Lib.hid (HPUT.out hlq z zb.1 zb.2)
          have HFP : Hid ((setL Lk r q z).flatten = upto2 L.flatten zs (r * n + (q + 1))) := Lib.hid (by
            rw [flat_put HD.out.dims z (by omega) (by omega) (by omega) (by omega), HFK.out, Int.toNat_natCast, Int.toNat_natCast, upto2_set HFL.out HL.out hz, Nat.add_assoc])
          obtain ⟨AT, hAT⟩ : ∃ AT, r * n + q = AT := ⟨_, rfl⟩
          have HAT := Lib.hid hAT
          rw [hAT] at hcz hlt9 ⊢
          have hq1 : (q : Int) < (n : Int) := by omega
          have ha1 : (AT : Int) < (N : Int) := by omega
          clear hz hv zb hAT
          go_wp2
          go_region
          clear c0 c1 e6 hb0 hcr hcz hcv hfz0
          go_wp2
          go_roundw
          case rel => exact ⟨q + 1, _, by omega, by have := HAT.out; go_num, by go_num, dg_up HPZ.out.1 (by repeat' (first | (with_reducible first | exact Below.refl _ _ | assumption | refine below_over ?_ _ _ | refine Lw.below_alloc ?_ _ | refine Below.drew ?_ | refine below_drewN ?_ _ | refine Below.setCell ?_ ?_ _) | go_size)), HFP.out, HPZ.out.2.trans (Kept.of_below (F := G) (by repeat' (first | (with_reducible first | exact Below.refl _ _ | assumption | refine below_over ?_ _ _ | refine Lw.below_alloc ?_ _ | refine Below.drew ?_ | refine below_drewN ?_ _ | refine Below.setCell ?_ ?_ _) | go_size))) (fun x _ e => e)⟩
          case measure => simp [intOf]; omega
        · have e : n = q := by omega
          subst e
          have hadv : r * n + n = (r + 1) * n := by rw [Nat.succ_mul]
          have HFQ := Lib.hid HFK.out
          rw [hadv] at HFQ
          go_wp2
          go_roundw
          case rel => exact ⟨r + 1, Lk, by omega, by rw [hadv], by go_num, HD.out, HFQ.out, HK.out⟩
          case measure => simp [intOf]; omega
    · have e : m = r := by omega
      subst e
      go_wp2
      all_goals go_end0
      obtain ⟨F', h1, h2, h3⟩ := HT.out _ _ HD.out HK.out
      exact ⟨rfl, F', Lj, h1, by rw [HFJ.out, ← HN.out, upto2_end HFL.out HL.out], h2, h3⟩
end Go.Proofs.YtkflggojiiebeaaGreat.Lev

namespace Go.Proofs.YtkflggojiiebeaaGreat.Lev
open Go Go.RowKit Lw Grd Lin Con Shp Sk Exa Inn
set_option linter.unusedVariables false
set_option linter.unusedSimpArgs false
theorem flat_inj {m n : Nat} {L M : List (List Int)} (hL : Dims m n L) (hM : Dims m n M) (h : L.flatten = M.flatten) : L = M := by
  refine sz_ext (sz_of_dims hL) (sz_of_dims hM) fun r q hr hq => ?_
  rw [cel_flat (sz_of_dims hL) hr hq, cel_flat (sz_of_dims hM) hr hq, h]
end Go.Proofs.YtkflggojiiebeaaGreat.Lev

namespace Go.Proofs.YtkflggojiiebeaaGreat.Stk
open Go Go.RowKit Lw Grd Lin Con Shp Sk Exa Lev
set_option linter.unusedVariables false
set_option linter.unusedSimpArgs false
theorem dls_dims {w : World} {p : Addr} {F : Nat → Prop} {c : Cfg} {l : Int} {L : List (List Int)} (h : DLS w p F c l L) : Dims (rws c) (wds c) L := by
  obtain ⟨a, G, b, rfl, hb, ht, hn, rfl⟩ := h
  obtain ⟨hr, hok, hl0, hl1, bs, gp, G0, rfl, hbs, hg, hGb, rfl⟩ := dsI ht
  exact hg.dims
end Go.Proofs.YtkflggojiiebeaaGreat.Stk

namespace Go.Proofs.YtkflggojiiebeaaGreat.Stk
open Go Go.RowKit Lw Grd Lin Con Shp Sk Exa Lev
set_option linter.unusedVariables false
set_option linter.unusedSimpArgs false
set_option maxRecDepth 100000 in
set_option maxHeartbeats 2000000 in
theorem rcellsM_any (b : Nat) (hdr : Value) (R : List Row) (Z : List Int) (w : World) (h : RG w b hdr R) (hZ : (nums R).flatten = Z) (hn : R.length ≤ 8) (hm : ∀ r ∈ R, r.2.2.length ≤ 128) :
    Calls Tryz.prog 63 #[.pointer (some ⟨b, 0, none⟩)] w fun e w' => ∃ (g cap : Nat), e = .returned (.slice (some ⟨g, 0, none⟩) Z.length cap) ∧ Ord.Mid w' g 0 Z ∧ Z.length ≤ cap ∧ cap ≤ maxLen ∧ w.heap.size ≤ g ∧ Below w.heap.size w w' := by
  obtain ⟨i0, hi, hz0, hz1, hz2⟩ := info_parts Grd.i64_info
  have HG := Lib.hid h
  have HZZ := Lib.hid hZ
  clear hZ
  obtain ⟨A, cap, rfl, hcap, hA, hcell⟩ := h.hd
  have hb := cell_of_row w b 0 _ _ _ h.cell
  simp only [List.getElem?_toArray, List.getElem?_cons_zero] at hb
  have hlen : (nums R).length = R.length := by simp [nums]
  have HLM := Lib.hid (fun k => flat_len (nums R) k 128 (fun zs hz => by obtain ⟨r, hr, rfl⟩ := List.mem_map.1 hz; exact hm r hr))
  have HC := Lib.hid hcell
  have HLEN := Lib.hid hlen
  have HM := Lib.hid hm
  clear h hcell hA hlen hm
  go_enter Tryz.func63, Tryz.ntmps63
  go_wp2
  go_loopw [3, 4] (fun v i wr => ∃ (k n : Nat) (ad : Addr) (cp : Nat), k ≤ R.length ∧ i = .int .i64 k ∧ n = ((nums R).take k).flatten.length ∧ v = .slice (some ad) n cp ∧ wr.ownsRow w.heap.size 2 1 v n (((nums R).take k).flatten.map (Value.int .i64)) ∧ Below w.heap.size w wr) (fun _ i _ => R.length - (intOf i).toNat)
  case atStart => exact ⟨0, 0, _, 0, Nat.zero_le _, rfl, rfl, rfl, own_empty w _ _ _ (Nat.le_refl _), Lw.below_alloc (Below.refl _ _) _⟩
  case round =>
    obtain ⟨k, n, ad, cp, hk, rfl, hnn, rfl, hown, hbel⟩ := hrel
    have hbr := cell_up hb hbel
    have hlm := HLM.out k
    have hbs := hbel.size
    by_cases hlt : k < R.length
    · obtain ⟨r, hr⟩ : ∃ r, R[k]? = some r := ⟨_, List.getElem?_eq_getElem hlt⟩
      obtain ⟨oad, rfl, hcr⟩ := HC.out k r hr
      have hrm := List.mem_of_getElem? hr
      have hml := HM.out r hrm
      have hcr2 := cell_up hcr hbel
      have hrd : Rd .i64 w (some ⟨r.1, 0, none⟩) r.2.2 := fun j v hv => ⟨_, rfl, HG.out.numAt hrm hv⟩
      have HN := Lib.hid (flat_next (nums R) k r.2.2 (by simp [nums, hr]))
      have HRD := Lib.hid (hrd.up hbel)
      have HB := Lib.hid hbel
      have HNN := Lib.hid hnn
      have hn2 : n ≤ 1024 := by omega
      clear hlm
      obtain ⟨g, gc, zs⟩ := r
      unfold rowHd at hcr2
      simp only at hcr2 hml HRD HN
      clear hr hcr hrd hbel hnn hrm
      go_wp2_with (at_builtin; (refine app_any .i64 rfl _ _ 54 rfl w.heap.size 2 i0 8 Grd.i64s_u hi hz0 hz1 hz2 (.slice (some ad) n cp) n ((nums R).take k).flatten rfl hown (fun h => by cases h) (some ⟨g, 0, none⟩) zs.length gc zs rfl (by simp) rfl HRD.out (by unfold maxLen; omega) (by omega) hbs ?_); intro A2 cap2 w2 own2 grow2 rd2 c2 d2; have hb2 : Below w.heap.size w w2 := app_below3 HB.out grow2 (fun q hq => own_ge hown q hq))
      go_roundw
      case rel => exact ⟨k + 1, n + zs.length, A2, cap2, by omega, by go_num, by rw [HN.out, List.length_append, ← HNN.out], rfl, by rw [HN.out]; exact own2, hb2⟩
      case measure => simp [intOf]; omega
    · have e : k = R.length := by omega
      subst e
      rw [List.take_of_length_le (by have := HLEN.out; omega), HZZ.out] at hown hnn hlm
      subst hnn
      obtain ⟨A2, c2, e2, hrd, h1, h2, h3⟩ := own_rd hown
      injection e2 with e3 e4 e5
      subst e3
      subst e5
      obtain ⟨gm, rfl, hgm, hmid⟩ := Ord.mid_own hown
      have HO := Lib.hid hmid
      have HB := Lib.hid hbel
      clear hown hrd hbel h3 hmid
      go_wp2
      go_ret
      exact ⟨_, _, rfl, HO.out, h1, h2, hgm, HB.out⟩
theorem dcellsM_any (q : Addr) (G : Nat → Prop) (m n : Nat) (L : List (List Int)) (w : World) (h : DG w q G m n L) :
    Calls Tryz.prog 63 #[.pointer (some q)] w fun e w' => ∃ (g cap : Nat), e = .returned (.slice (some ⟨g, 0, none⟩) (m * n) cap) ∧ Ord.Mid w' g 0 L.flatten ∧ m * n ≤ cap ∧ cap ≤ maxLen ∧ w.heap.size ≤ g ∧ Below w.heap.size w w' := by
  obtain ⟨b, hdr, R, rfl, hg, rfl, hG, hd⟩ := h
  obtain ⟨s1, s2, s3⟩ := DG.sizes hd
  have h := rcellsM_any b hdr R (nums R).flatten w hg rfl s1 s2
  rw [flat_dims hd] at h
  exact h
set_option maxRecDepth 100000 in
set_option maxHeartbeats 4000000 in
theorem lcellsM_S (p : Addr) (F : Nat → Prop) (c : Cfg) (l : Int) (L : List (List Int)) (w : World) (h : DLS w p F c l L) :
    Calls Tryz.prog 23 #[.pointer (some p)] w fun e w' => ∃ (g cap : Nat), e = .returned (.slice (some ⟨g, 0, none⟩) (rws c * wds c) cap) ∧ Ord.Mid w' g 0 L.flatten ∧ rws c * wds c ≤ cap ∧ cap ≤ maxLen ∧ w.heap.size ≤ g ∧ Below w.heap.size w w' := by
  obtain ⟨a, G, b, rfl, hb, ht, hn, rfl⟩ := h
  have c0 := grd_cell hb 0 (v := .pointer none) rfl
  have c1 := grd_cell hb 1 (v := .pointer (some a)) rfl
  obtain ⟨hr, hok, hl0, hl1, bs, gp, G0, rfl, hbs, hg, hGb, rfl⟩ := dsI ht
  have e6 := grd_cell hbs 6 (v := .pointer (some gp)) rfl
  have C := Lib.hid (dcellsM_any gp G0 _ _ L w hg)
  clear hb ht hn hbs hg
  go_enter Tryz.func23, Tryz.ntmps23
  go_wp2_with (go_at_call 63; (with_reducible refine (C.out).mono ?_); rintro e w2 ⟨A, cap, rfl, h1, h2, h3, h4, hb9⟩; have H1 := Lib.hid h1; have H2 := Lib.hid (And.intro h2 (And.intro h3 h4)); have HB2 := Lib.hid hb9; clear h1 h2 h3 h4 hb9)
  go_ret
  exact ⟨A, cap, rfl, H1.out, H2.out.1, H2.out.2.1, H2.out.2.2, HB2.out⟩
theorem dla_len {w : World} {p : Addr} {F : Nat → Prop} {c : Cfg} {l : Int} {L : List Int} (h : DLA w p F c l L) : L.length ≤ 128 := by
  obtain ⟨a, G, b, rfl, hb, ht, hn, rfl⟩ := h
  have h2 : DA w a G c l L := ht
  exact h2.2.1
theorem dvm_cells (p : Addr) (F : Nat → Prop) (c : Cfg) (l : Int) (st : LS) (w : World) (h : DLV w p F c l st) :
    Calls Tryz.prog 23 #[.pointer (some p)] w fun e w' => ∃ (g n cap : Nat), e = .returned (.slice (some ⟨g, 0, none⟩) n cap) ∧ Ord.Mid w' g 0 st.fl ∧ st.fl.length = n ∧ n ≤ cap ∧ cap ≤ maxLen ∧ w.heap.size ≤ g ∧ Below w.heap.size w w' := by
  cases st with
  | A L => exact (lcells_A p F c l L w h.2).mono (fun e w' ⟨g, cap, h1, h2, h3, h4, h5, h6⟩ => ⟨g, _, cap, h1, h2, rfl, h4, h5, h3, h6⟩)
  | S L =>
    have hl : L.flatten.length = rws c * wds c := flat_dims (dls_dims h.2)
    exact (lcellsM_S p F c l L w h.2).mono (fun e w' ⟨g, cap, h1, h2, h3, h4, h5, h6⟩ => ⟨g, _, cap, h1, h2, hl, h3, h4, h5, h6⟩)
/-- A level's cells are loaded. -/
theorem dv_load (p : Addr) (F : Nat → Prop) (c : Cfg) (l : Int) (st : LS) (ad : Addr) (n cap : Nat) (zs : List Int) (w : World) (h : DLV w p F c l st) (hrd : Rd .i64 w (some ad) zs) (hl : zs.length = n) (hz : In64 zs) (hn : n = st.fl.length) (hap : ¬ F ad.block) :
    Calls Tryz.prog 24 #[.pointer (some p), .slice (some ad) n cap] w fun e w' => e = .returned (.tuple #[]) ∧ ∃ F' st', DLV w' p F' c l st' ∧ st'.fl = zs ∧ st'.ar = st.ar ∧ Kept F w w' ∧ (∀ k, F' k → F k ∨ w.heap.size ≤ k) := by
  cases st with
  | A L => exact (lload_A p F c l L ad n cap zs w h.2 hrd hl hz (by have := dla_len h.2; have h9 : n = L.length := hn; omega)).mono (fun e w' ⟨h1, F', h2, h3, h4⟩ => ⟨h1, F', .A zs, ⟨h.1, h2⟩, rfl, rfl, h3, h4⟩)
  | S L =>
    have hl2 : L.flatten.length = rws c * wds c := flat_dims (dls_dims h.2)
    exact (lload_S p F c l L ad n cap zs w h.2 hrd hl hz (by have h9 : n = L.flatten.length := hn; omega) hap).mono (fun e w' ⟨h1, F', L', h2, h3, h4, h5⟩ => ⟨h1, F', .S L', ⟨h.1, h2⟩, h3, rfl, h4, h5⟩)
/-- What a level has is told by its cells. -/
theorem ls_eq {w1 w2 : World} {p : Addr} {v : Value} {F1 F2 : Nat → Prop} {c : Cfg} {l : Int} {s1 s2 : LS} (h1 : DLV w1 p F1 c l s1) (h2 : ELV w2 v F2 c l s2) (hf : s1.fl = s2.fl) : s1 = s2 := by
  have ha : s1.ar = s2.ar := h1.1.symm.trans h2.1
  cases s1 with
  | A L1 =>
    cases s2 with
    | A L2 => exact congrArg LS.A hf
    | S L2 => cases ha
  | S L1 =>
    cases s2 with
    | A L2 => cases ha
    | S L2 =>
      obtain ⟨q, e, h3⟩ := h2.2
      exact congrArg LS.S (flat_inj (dls_dims h1.2) h3.dims hf)
end Go.Proofs.YtkflggojiiebeaaGreat.Stk

namespace Go.Proofs.YtkflggojiiebeaaGreat.Stk
open Go Go.RowKit Lw Grd Lin Con Shp Sk Exa Lev Go.Shelf
set_option linter.unusedVariables false
set_option linter.unusedSimpArgs false
theorem nlA (p : Addr) (w : World) (n : Nat) : (nilAhead (n + 100) 173 (.pointer (some p)) "Load").run Tryz.prog w = .ok (some false) w := by kernel_rfl
theorem nlS (p : Addr) (w : World) (n : Nat) : (nilAhead (n + 100) 176 (.pointer (some p)) "Load").run Tryz.prog w = .ok (some false) w := by kernel_rfl
set_option maxHeartbeats 2000000 in
theorem cs_load (p : Addr) (F : Nat → Prop) (c : Cfg) (sts : List LS) (n : Nat) (st : LS) (ad : Addr) (N cap : Nat) (zs : List Int) (w : World) (h : ST w p F c sts) (hst : sts[n]? = some st) (hrd : Rd .i64 w (some ad) zs) (hl : zs.length = N) (hz : In64 zs) (hN : N = st.fl.length) (hap : ¬ F ad.block) :
    Calls Tryz.prog 25 #[.pointer (some p), .int .i64 n, .slice (some ad) N cap] w fun e w' => e = .returned (.bool true) ∧ ∃ F' st', ST w' p F' c (sts.set n st') ∧ st'.fl = zs ∧ Kept F w w' ∧ (∀ q, F' q → F q ∨ w.heap.size ≤ q) := by
  have HS := Lib.hid h
  have hn2 := (List.getElem?_eq_some_iff.1 hst).1
  obtain ⟨hr, hc, hlen, b, B0, hdr, vals, ts, rfl, hrow, hI, rfl⟩ := h
  have HH := Lib.hid (st_hold hrow hI)
  have HO := Lib.hid hc
  have HR := Lib.hid hr
  have HL := Lib.hid hlen
  have HROW := Lib.hid hrow
  have hb1 := hr.1
  have hb2 := hr.2.1
  have hvl : vals.length = c.bt.toNat + 1 := hrow.lv.trans hlen
  obtain ⟨g, gcap, rfl, hcap, hmx, hcs⟩ := own_cell (HH.out.i (t := ownT B0 107 hdr vals) (by simp)) (by omega)
  have c5 := box_cell (HH.out.i (t := skB b c (.slice (some ⟨g, 0, none⟩) vals.length gcap)) (by simp)) (i := 5) rfl
  have hn3 : (n : Int) ≤ c.bt := by omega
  have hd : decide (0 ≤ (n : Int) ∧ (n : Int) ≤ c.bt) = true := decide_eq_true ⟨by omega, hn3⟩
  have hn4 : (n : Int) < (vals.length : Int) := by omega
  have hn5 : n < vals.length := by omega
  have hn6 : (0 : Int) ≤ (n : Int) := by omega
  have hn7 : -9223372036854775808 ≤ (n : Int) := by omega
  have hn8 : (n : Int) ≤ 9223372036854775807 := by omega
  obtain ⟨st2, v, Q, e1, e2, e3⟩ := hrow.at (j := n) hn2
  rw [hst] at e1
  injection e1 with e1
  subst e1
  have c6 := hcs n v e2
  have hE : ELV w v Q c (n : Int) st := HH.out.i (t := elvT v Q c (n : Int) st) (List.mem_cons_of_mem _ (List.mem_cons_of_mem _ (List.mem_of_getElem? e3)))
  have hap2 : ¬ Q ad.block := fun h => hap ⟨elvT v Q c (n : Int) st, List.mem_cons_of_mem _ (List.mem_cons_of_mem _ (List.mem_of_getElem? e3)), h⟩
  have HEND : Hid (∀ (w' : World) (Q' : Nat → Prop) (st' : LS), ELV w' v Q' c (n : Int) st' → Kept Q w w' → (∀ k, Q' k → Q k ∨ w.heap.size ≤ k) → ∃ F', ST w' ⟨b, 0, none⟩ F' c (sts.set n st') ∧ Kept (manyT (skB b c (.slice (some ⟨g, 0, none⟩) vals.length gcap) :: ownT B0 107 (.slice (some ⟨g, 0, none⟩) vals.length gcap) vals :: ts)).F w w' ∧ (∀ q, F' q → (manyT (skB b c (.slice (some ⟨g, 0, none⟩) vals.length gcap) :: ownT B0 107 (.slice (some ⟨g, 0, none⟩) vals.length gcap) vals :: ts)).F q ∨ w.heap.size ≤ q)) := Lib.hid (fun w' Q' st' h1 h2 h3 => by
    have h4 := HoldC.set (pre := [skB b c (.slice (some ⟨g, 0, none⟩) vals.length gcap), ownT B0 107 (.slice (some ⟨g, 0, none⟩) vals.length gcap) vals]) (post := []) (by simpa using HH.out) e3 (elvT v Q' c (n : Int) st') h1 h2 h3 (cel_elv h1)
    have h5 := st_of HR.out HO.out (by rw [List.length_set]; exact HL.out) (HROW.out.put e2 Q' st') (by simpa using h4)
    exact ⟨_, h5.1, h5.2.1, h5.2.2⟩)
  have HRD := Lib.hid hrd
  have HZ := Lib.hid hz
  have HLZ := Lib.hid hl
  have HE := Lib.hid hE
  have HNN := Lib.hid hN
  clear hr hc hlen hrow hI hcs hvl e2 e3 hE hrd hz hl hN hst hap hn2 hb1 hb2 hcap hmx
  cases st with
  | A L =>
    obtain ⟨q, rfl, h2⟩ := HE.out.2
    have CL := Lib.hid (eload_yes q Q c n L (some ad) N cap zs w h2 HRD.out HLZ.out HZ.out (fun a ha => by injection ha with ha; subst ha; exact hap2) HNN.out)
    clear h2
    have nla := nlA
    go_enter Tryz.func25, Tryz.ntmps25
    go_wp2_with (first
      | (go_at_call 64; (with_reducible refine (shas_any _ _ c sts n _ HS.out hn7 hn8).mono ?_); rintro e w' ⟨rfl, rfl⟩; rw [hd])
      | (go_at_call 195; (with_reducible refine CL.out.mono ?_); rintro e w5 ⟨rfl, Q5, h1, h2, h3⟩; have HX5 := Lib.hid (And.intro h1 (And.intro h2 h3)); clear h1 h2 h3))
    go_ret
    obtain ⟨F', f1, f2, f3⟩ := HEND.out w5 Q5 (.A zs) ⟨HE.out.1, q, rfl, HX5.out.1⟩ HX5.out.2.1 HX5.out.2.2
    exact ⟨rfl, F', .A zs, f1, rfl, f2, f3⟩
  | S L =>
    obtain ⟨q, rfl, h2⟩ := HE.out.2
    have hflat : L.flatten.length = rws c * wds c := flat_dims h2.dims
    have CL := Lib.hid (sload_yes q Q c n L (some ad) N cap zs w h2 HRD.out HLZ.out (by have h9 : N = L.flatten.length := HNN.out; rw [h9, hflat]; exact Nat.le_trans (Nat.mul_le_mul (rws_bd HR.out).2.1 (wds_bd HR.out).2.1) (by omega)) HZ.out (fun a ha => by injection ha with ha; subst ha; exact hap2) (HNN.out.trans hflat))
    clear h2 hflat
    have nls := nlS
    go_enter Tryz.func25, Tryz.ntmps25
    go_wp2_with (first
      | (go_at_call 64; (with_reducible refine (shas_any _ _ c sts n _ HS.out hn7 hn8).mono ?_); rintro e w' ⟨rfl, rfl⟩; rw [hd])
      | (go_at_call 209; (with_reducible refine CL.out.mono ?_); rintro e w5 ⟨rfl, Q5, L5, h1, hfl, h2, h3⟩; have HX5 := Lib.hid (And.intro h1 (And.intro h2 h3)); have HF5 := Lib.hid hfl; clear h1 h2 h3 hfl))
    go_ret
    obtain ⟨F', f1, f2, f3⟩ := HEND.out w5 Q5 (.S L5) ⟨HE.out.1, q, rfl, HX5.out.1⟩ HX5.out.2.1 HX5.out.2.2
    exact ⟨rfl, F', .S L5, f1, HF5.out, f2, f3⟩
end Go.Proofs.YtkflggojiiebeaaGreat.Stk

namespace Go.Proofs.YtkflggojiiebeaaGreat.Stk
open Go Go.RowKit Lw Grd Lin Con Shp Sk Exa Lev Go.Shelf
set_option linter.unusedVariables false
set_option linter.unusedSimpArgs false
theorem ls_len {w : World} {p : Addr} {F : Nat → Prop} {c : Cfg} {sts : List LS} (h : ST w p F c sts) {n : Nat} {st : LS} (hs : sts[n]? = some st) : st.fl.length ≤ 1152 := by
  obtain ⟨hr, hc, hlen, b, B0, hdr, vals, ts, rfl, hrow, hI, rfl⟩ := h
  obtain ⟨st2, v, Q, e1, e2, e3⟩ := hrow.at (j := n) ((List.getElem?_eq_some_iff.1 hs).1)
  rw [hs] at e1
  injection e1 with e1
  subst e1
  have hE : ELV w v Q c (n : Int) st := hI.1 (elvT v Q c (n : Int) st) (List.mem_cons_of_mem _ (List.mem_cons_of_mem _ (List.mem_of_getElem? e3)))
  cases st with
  | A L =>
    obtain ⟨p, rfl, h2⟩ := hE.2
    have := h2.size.2.2
    show L.length ≤ 1152
    omega
  | S L =>
    obtain ⟨p, rfl, h2⟩ := hE.2
    have h3 : L.flatten.length = rws c * wds c := flat_dims h2.dims
    show L.flatten.length ≤ 1152
    rw [h3]
    exact Nat.le_trans (Nat.mul_le_mul (rws_bd hr).2.1 (wds_bd hr).2.1) (by omega)
end Go.Proofs.YtkflggojiiebeaaGreat.Stk

namespace Go.Proofs.YtkflggojiiebeaaGreat.Stk
open Go Go.RowKit Lw Grd Lin Con Shp Sk Exa Lev Go.Shelf
set_option linter.unusedVariables false
set_option linter.unusedSimpArgs false
theorem in64_flat {m n : Nat} {L : List (List Int)} (h : Dims m n L) : In64 L.flatten := fun v hv => by
  obtain ⟨r, hr, h2⟩ := List.mem_flatten.1 hv
  exact (h.rows r hr).2 v h2
theorem elv_in {w : World} {v : Value} {F : Nat → Prop} {c : Cfg} {l : Int} {st : LS} (h : ELV w v F c l st) : In64 st.fl := by
  cases st with
  | A L =>
    obtain ⟨p, rfl, h2⟩ := h.2
    exact h2.in64
  | S L =>
    obtain ⟨p, rfl, h2⟩ := h.2
    exact in64_flat h2.dims
theorem st_lvl {w : World} {p : Addr} {F : Nat → Prop} {c : Cfg} {sts : List LS} (h : ST w p F c sts) {n : Nat} {st : LS} (hs : sts[n]? = some st) : ∃ v Q, ELV w v Q c (n : Int) st := by
  obtain ⟨hr, hc, hlen, b, B0, hdr, vals, ts, rfl, hrow, hI, rfl⟩ := h
  obtain ⟨st2, v, Q, e1, e2, e3⟩ := hrow.at (j := n) ((List.getElem?_eq_some_iff.1 hs).1)
  rw [hs] at e1
  injection e1 with e1
  subst e1
  exact ⟨v, Q, hI.1 (elvT v Q c (n : Int) st) (List.mem_cons_of_mem _ (List.mem_cons_of_mem _ (List.mem_of_getElem? e3)))⟩
/-- A level of the document's stack, as the law reaches it; what its turning turns. -/
theorem dk_lvl {w : World} {b0 : Nat} {F : Nat → Prop} {c : Cfg} {sts : List LS} (h : DK w ⟨b0, 0, none⟩ F c sts) {n : Nat} {st : LS} (hs : sts[n]? = some st) : ∃ (g0 N cap0 : Nat) (p0 : Addr) (Q0 : Nat → Prop), w.cell? ⟨b0, 5, none⟩ = some (.slice (some ⟨g0, 0, none⟩) N cap0) ∧ n < N ∧ w.cell? ⟨g0, n, none⟩ = some (.pointer (some p0)) ∧ DLV w p0 Q0 c (n : Int) st ∧ (∀ k, Q0 k → F k) ∧
    (∀ (w' : World) (Q' : Nat → Prop) (st' : LS), DLV w' p0 Q' c (n : Int) st' → Kept Q0 w w' → (∀ k, Q' k → Q0 k ∨ w.heap.size ≤ k) → ∃ F', DK w' ⟨b0, 0, none⟩ F' c (sts.set n st') ∧ Kept F w w' ∧ (∀ q, F' q → F q ∨ w.heap.size ≤ q)) := by
  obtain ⟨hr, hc, hl, b1, B0, hdr0, vals0, ts0, e0, hrow0, hI, rfl⟩ := h
  injection e0 with e0
  subst e0
  have hH := Hold.start hI
  obtain ⟨g0, cap0, rfl, hcs⟩ := ownD_cell (hH.i (t := ownT B0 55 hdr0 vals0) (by simp)) (by have := hrow0.lv; omega)
  obtain ⟨p0, Q0, e1, e2, e3⟩ := dk_at hrow0 hH hs
  have hn := (List.getElem?_eq_some_iff.1 hs).1
  refine ⟨g0, vals0.length, cap0, p0, Q0, box_cell (hH.i (t := dkB b0 c (.slice (some ⟨g0, 0, none⟩) vals0.length cap0)) (by simp)) (i := 5) rfl, by rw [hrow0.lv]; exact hn, hcs n _ e1, e2, fun k hk => ⟨dlT (.pointer (some p0)) Q0 c (n : Int) st, List.mem_cons_of_mem _ (List.mem_cons_of_mem _ (List.mem_of_getElem? e3)), hk⟩, fun w' Q' st' h1 h2 h3 => ?_⟩
  have h4 := Hold.set (pre := [dkB b0 c (.slice (some ⟨g0, 0, none⟩) vals0.length cap0), ownT B0 55 (.slice (some ⟨g0, 0, none⟩) vals0.length cap0) vals0]) (post := []) (by simpa using hH) e3 (dlT (.pointer (some p0)) Q' c (n : Int) st') ⟨p0, rfl, h1⟩ h2 h3
  have h5 := dk_of hr hc (by rw [List.length_set]; exact hl) (hrow0.put e1 Q' st') (by simpa using h4)
  exact ⟨_, h5.1, h5.2.1, h5.2.2⟩
end Go.Proofs.YtkflggojiiebeaaGreat.Stk

