/- Texts that the statements of this seat lean on, put together: InnCode, InnLawA, InnRef, InnShr, ExaDef. -/
import Derived.Test.YtkannodfamnmcaaGreatMa
import Derived.Test.YtkannodfamnmcaaGreatMb
import Derived.Test.YtkannodfamnmcaaGreatMc
import Derived.Test.YtkannodfamnmcaaGreatMd
import Derived.Test.YtkannodfamnmcaaGreatMg
import Derived.Test.YtkannodfamnmcaaGreatMh
import Derived.Test.YtkannodfamnmcaaGreatMi
import Derived.Deep.LoopGhost
import Derived.Deep.RegionHeld3
import Derived.Deep.QuietTactic
import Derived.BigQuiet
import Derived.Deep.DeepCutAuto
import Derived.Deep.CutRange
import Derived.Deep.RegionWith
/- The walks of package inner (the code's): cut, alike, Inner. Printed by wip/gen/inncode.py. -/
namespace Go.Proofs.YtkannodfamnmcaaGreat.Inn
open Go Go.RowKit Lw Grd Lin Con Shp Sk
set_option linter.unusedVariables false
set_option linter.unusedSimpArgs false
theorem mul_small {i w : Int} (hi : 0 ≤ i) (hi8 : i ≤ 8) (hw : 0 ≤ w) (hw8 : w ≤ 128) : 0 ≤ i * w ∧ i * w ≤ 1024 := by
  refine ⟨Int.mul_nonneg hi hw, ?_⟩
  have h1 : i * w ≤ 8 * w := Int.mul_le_mul_of_nonneg_right hi8 hw
  omega
theorem cut_len {zs : List Int} {F T W : Nat} (h : T = F + W) (hl : T ≤ zs.length) : ((zs.drop F).take W).length = W := by
  rw [List.length_take, List.length_drop]
  omega
theorem slice_3 (a2 : Addr) (n k F T W : Nat) (hT : T = F + W) (hk : T ≤ k) (hW : 1 ≤ W) (w : World) : (Instr.slice 45 (.slice (some a2) n k) (some (.int .i64 (F : Int))) (some (.int .i64 (T : Int))) (some (.int .i64 (T : Int)))).run Tryz.prog w = .ok (.slice (some (a2.add F)) W W) w := by
  have m1 : (T : Int) ≤ (k : Int) := by omega
  have m2 : (F : Int) ≤ (T : Int) := by omega
  have m3 : ¬ T = F := by omega
  have k1 : T ≤ k := hk
  have k2 : F ≤ T := by omega
  have m4 : T - F = W := by omega
  have m5 : Tryz.prog.cellsOf 2 = 1 := by kernel_rfl
  simp [Instr.slice, Instr.sliceBounds, Instr.sliceBound, asIntOf, m1, m2, m3, m4, m5, k1, k2, go_sem]
/-- One row out of cells that stand row by row. -/
theorem icut_any (g n cap : Nat) (row width F T : Nat) (R W : Int) (w : World) (hr : R = row) (hwd : W = width) (hr8 : row < 8) (hw8 : width ≤ 128) (hw1 : 1 ≤ width) (hF : row * width = F) (hT : (row + 1) * width = T) (hn : T ≤ n) (hc : n ≤ cap) (hm : cap ≤ maxLen) :
    Calls Tryz.prog 83 #[.slice (some ⟨g, 0, none⟩) n cap, .int .i64 R, .int .i64 W] w fun e w' => e = .returned (.slice (some ⟨g, F, none⟩) width width) ∧ Below w.heap.size w w' := by
  subst hr hwd
  have e1 : ((row : Int) + 1) * (width : Int) = (((row + 1) * width : Nat) : Int) := by simp
  have e2 : (row : Int) * (width : Int) = ((row * width : Nat) : Int) := by simp
  have e3 : (row + 1) * width = row * width + width := by rw [Nat.add_mul, Nat.one_mul]
  have hb : row * width ≤ 7 * 128 := Nat.mul_le_mul (by omega) hw8
  unfold maxLen at hm
  rw [hF] at e2 e3 hb
  rw [hT] at e1 e3
  have w1 : wrap64 ((row : Int) * (width : Int)) = F := by rw [e2]; exact IntWalk.wrap64_in _ ⟨by omega, by omega⟩
  have w2 : wrap64 ((row : Int) + 1) = (row : Int) + 1 := IntWalk.wrap64_in _ ⟨by omega, by omega⟩
  have w3 : wrap64 (((row : Int) + 1) * (width : Int)) = T := by rw [e1]; exact IntWalk.wrap64_in _ ⟨by omega, by omega⟩
  have hs := slice_3 ⟨g, 0, none⟩ n cap F T width e3 (Nat.le_trans hn hc) hw1
  clear hF hT e1 e2 e3 hb hn hm
  go_enter Tryz.func83, Tryz.ntmps83
  go_wp2
  go_ret
  exact ⟨by first | rfl | simp [Ord.add_at], by (repeat' (first | (with_reducible exact Below.refl _ _) | (with_reducible assumption) | (with_reducible refine below_over ?_ _ _) | (with_reducible refine Lw.below_alloc ?_ _) | (with_reducible refine Below.drew ?_) | (with_reducible refine below_drewN ?_ _) | (with_reducible refine Below.setCell ?_ ?_ _) | go_size))⟩
theorem row_rd {w : World} {g F n : Nat} {zs : List Int} (hz : Ord.Mid w g 0 zs) : Rd .i64 w (some ⟨g, F, none⟩) ((zs.drop F).take n) := by
  have h := (hz.rd.drop F).take n
  rw [Ord.add_at, Nat.zero_add] at h
  exact h
theorem flat_row {m n : Nat} {L : List (List Int)} (h : Sz m n L) {k : Nat} {r : List Int} (hr : L[k]? = some r) : (L.flatten.drop (k * n)).take n = r := by
  have hk : k < L.length := (List.getElem?_eq_some_iff.1 hr).1
  have hrl : r.length = n := h.2 r (List.mem_of_getElem? hr)
  apply List.ext_getElem?
  intro j
  rw [List.getElem?_take]
  by_cases hj : j < n
  · rw [if_pos hj, List.getElem?_drop, flat_get k j h.2 hk hj, hr]
    rfl
  · rw [if_neg hj, List.getElem?_eq_none (by omega)]
def inCode (c c' : Cfg) (l l' : Int) (L M : List (List Int)) : Int := if cfgE c c' = true ∧ l = l' then (if c.md = 1 then (if oks L M = true then 0 else 4) else 3) else 5
def inVal (c c' : Cfg) (l l' : Int) (L M : List (List Int)) : Int := if inCode c c' l l' L M = 0 then lmin (dots L M) else 0
theorem in_no {c c' : Cfg} {l l' : Int} {L M : List (List Int)} (h : ¬ (cfgE c c' = true ∧ l = l')) : inCode c c' l l' L M = 5 ∧ inVal c c' l l' L M = 0 := by
  have e : inCode c c' l l' L M = 5 := if_neg h
  exact ⟨e, by unfold inVal; rw [e]; rfl⟩
theorem cfgE_self (c : Cfg) : cfgE c c = true := decide_eq_true ⟨rfl, rfl, rfl, rfl, rfl⟩
theorem in_mode {c : Cfg} {l : Int} {L M : List (List Int)} (h : c.md ≠ 1) : inCode c c l l L M = 3 ∧ inVal c c l l L M = 0 := by
  have e : inCode c c l l L M = 3 := by unfold inCode; rw [if_pos ⟨cfgE_self c, rfl⟩, if_neg h]
  exact ⟨e, by unfold inVal; rw [e]; rfl⟩
theorem in_over {c : Cfg} {l : Int} {L M : List (List Int)} (h : c.md = 1) (ho : oks L M = false) : inCode c c l l L M = 4 ∧ inVal c c l l L M = 0 := by
  have e : inCode c c l l L M = 4 := by unfold inCode; rw [if_pos ⟨cfgE_self c, rfl⟩, if_pos h, ho]; rfl
  exact ⟨e, by unfold inVal; rw [e]; rfl⟩
theorem in_yes {c : Cfg} {l : Int} {L M : List (List Int)} (h : c.md = 1) (ho : oks L M = true) : inCode c c l l L M = 0 ∧ inVal c c l l L M = lmin (dots L M) := by
  have e : inCode c c l l L M = 0 := by unfold inCode; rw [if_pos ⟨cfgE_self c, rfl⟩, if_pos h, ho]; rfl
  exact ⟨e, by unfold inVal; rw [e]; rfl⟩
theorem store2 {w : World} {b : Nat} {e : TypeId} {u0 u1 : Value} (h : (boxT b e #[u0, u1]).I w) (v0 v1 : Value) : (boxT b e #[v0, v1]).I ((w.setCell ⟨b, 0, none⟩ v0).setCell ⟨b, 1, none⟩ v1) :=
  boxs_set (boxs_set h 0 v0) 1 v1
theorem kept2 (w : World) (b : Nat) (v0 v1 : Value) : Kept (fun k => k = b) w ((w.setCell ⟨b, 0, none⟩ v0).setCell ⟨b, 1, none⟩ v1) :=
  Kept.set (F := fun k => k = b) (Kept.set (F := fun k => k = b) (Kept.refl _ w) (.inl rfl) 0 v0) (.inl rfl) 1 v1
theorem box2 {w : World} {b : Nat} {e : TypeId} {v0 v1 : Value} (h : (boxT b e #[v0, v1]).I w) : w.cell? ⟨b, 0, none⟩ = some v0 ∧ w.cell? ⟨b, 1, none⟩ = some v1 := ⟨box_cell h rfl, box_cell h rfl⟩
theorem ialike_nil1 (v : Value) (hv : v = .pointer none ∨ ∃ q, v = .pointer (some q)) (w : World) :
    Calls Tryz.prog 79 #[.pointer none, v] w fun e w' => e = .returned (.bool false) ∧ Below w.heap.size w w' := by
  rcases hv with rfl | ⟨q, rfl⟩
  all_goals (go_enter Tryz.func79, Tryz.ntmps79)
  all_goals go_wp2
  all_goals go_ret
  all_goals exact ⟨rfl, by (repeat' (first | (with_reducible exact Below.refl _ _) | (with_reducible assumption) | (with_reducible refine below_over ?_ _ _) | (with_reducible refine Lw.below_alloc ?_ _) | (with_reducible refine Below.drew ?_) | (with_reducible refine below_drewN ?_ _) | (with_reducible refine Below.setCell ?_ ?_ _) | go_size))⟩
theorem ialike_nil2 (p : Addr) (w : World) :
    Calls Tryz.prog 79 #[.pointer (some p), .pointer none] w fun e w' => e = .returned (.bool false) ∧ Below w.heap.size w w' := by
  go_enter Tryz.func79, Tryz.ntmps79
  go_wp2
  go_ret
  exact ⟨rfl, by (repeat' (first | (with_reducible exact Below.refl _ _) | (with_reducible assumption) | (with_reducible refine below_over ?_ _ _) | (with_reducible refine Lw.below_alloc ?_ _) | (with_reducible refine Below.drew ?_) | (with_reducible refine below_drewN ?_ _) | (with_reducible refine Below.setCell ?_ ?_ _) | go_size))⟩
set_option maxRecDepth 100000 in
theorem ialike_yes (p : Addr) (F : Nat → Prop) (c : Cfg) (l : Int) (L : List (List Int)) (q : Addr) (G : Nat → Prop) (M : List (List Int)) (w : World) (h : SK w p F c l L) (g : SK w q G c l M) :
    Calls Tryz.prog 79 #[.pointer (some p), .pointer (some q)] w fun e w' => e = .returned (.bool true) ∧ Below w.heap.size w w' := by
  have H := Lib.hid h
  have G := Lib.hid g
  clear h g
  go_enter Tryz.func79, Tryz.ntmps79
  go_wp2_with (first
    | (go_at_call_of 80 (Value.pointer (some p)); (with_reducible refine (sconfig_any _ _ _ _ _ _ (H.out.up (by (repeat' (first | (with_reducible exact Below.refl _ _) | (with_reducible assumption) | (with_reducible refine below_over ?_ _ _) | (with_reducible refine Lw.below_alloc ?_ _) | (with_reducible refine Below.drew ?_) | (with_reducible refine below_drewN ?_ _) | (with_reducible refine Below.setCell ?_ ?_ _) | go_size))))).mono ?_); rintro e w' ⟨rfl, hb⟩; obtain ⟨bs1, d1, rfl⟩ := below_grow hb; clear hb)
    | (go_at_call_of 80 (Value.pointer (some q)); (with_reducible refine (sconfig_any _ _ _ _ _ _ (G.out.up (by (repeat' (first | (with_reducible exact Below.refl _ _) | (with_reducible assumption) | (with_reducible refine below_over ?_ _ _) | (with_reducible refine Lw.below_alloc ?_ _) | (with_reducible refine Below.drew ?_) | (with_reducible refine below_drewN ?_ _) | (with_reducible refine Below.setCell ?_ ?_ _) | go_size))))).mono ?_); rintro e w' ⟨rfl, hb⟩; obtain ⟨bs2, d2, rfl⟩ := below_grow hb; clear hb)
    | (go_at_call_of 110 (Value.pointer (some p)); (with_reducible refine (slevel_any _ _ _ _ _ _ (H.out.up (by (repeat' (first | (with_reducible exact Below.refl _ _) | (with_reducible assumption) | (with_reducible refine below_over ?_ _ _) | (with_reducible refine Lw.below_alloc ?_ _) | (with_reducible refine Below.drew ?_) | (with_reducible refine below_drewN ?_ _) | (with_reducible refine Below.setCell ?_ ?_ _) | go_size))))).mono ?_); rintro e w' ⟨rfl, hb⟩; obtain ⟨bs3, d3, rfl⟩ := below_grow hb; clear hb)
    | (go_at_call_of 110 (Value.pointer (some q)); (with_reducible refine (slevel_any _ _ _ _ _ _ (G.out.up (by (repeat' (first | (with_reducible exact Below.refl _ _) | (with_reducible assumption) | (with_reducible refine below_over ?_ _ _) | (with_reducible refine Lw.below_alloc ?_ _) | (with_reducible refine Below.drew ?_) | (with_reducible refine below_drewN ?_ _) | (with_reducible refine Below.setCell ?_ ?_ _) | go_size))))).mono ?_); rintro e w' ⟨rfl, hb⟩; obtain ⟨bs4, d4, rfl⟩ := below_grow hb; clear hb))
  go_ret
  exact ⟨rfl, by (repeat' (first | (with_reducible exact Below.refl _ _) | (with_reducible assumption) | (with_reducible refine below_over ?_ _ _) | (with_reducible refine Lw.below_alloc ?_ _) | (with_reducible refine Below.drew ?_) | (with_reducible refine below_drewN ?_ _) | (with_reducible refine Below.setCell ?_ ?_ _) | go_size))⟩
set_option maxRecDepth 100000 in
theorem ialike_no (p : Addr) (F : Nat → Prop) (c : Cfg) (l : Int) (L : List (List Int)) (q : Addr) (G : Nat → Prop) (c' : Cfg) (l' : Int) (M : List (List Int)) (w : World) (h : SK w p F c l L) (g : SK w q G c' l' M) (hn : ¬ (cfgE c c' = true ∧ l = l')) :
    Calls Tryz.prog 79 #[.pointer (some p), .pointer (some q)] w fun e w' => e = .returned (.bool false) ∧ Below w.heap.size w w' := by
  have H := Lib.hid h
  have G := Lib.hid g
  clear h g
  by_cases hc : cfgE c c' = true
  · have hc2 := of_decide_eq_true hc
    obtain ⟨e0, e1, e2, e3, e4⟩ := hc2
    have hl : (l == l') = false := by
      have h1 : ¬ l = l' := fun e => hn ⟨hc, e⟩
      simpa using h1
    obtain ⟨a0, a1, a2, a3, a4⟩ := c
    obtain ⟨b0, b1, b2, b3, b4⟩ := c'
    simp only at e0 e1 e2 e3 e4
    subst e0 e1 e2 e3 e4
    clear hn hc
    go_enter Tryz.func79, Tryz.ntmps79
    go_wp2_with (first
      | (go_at_call_of 80 (Value.pointer (some p)); (with_reducible refine (sconfig_any _ _ _ _ _ _ (H.out.up (by (repeat' (first | (with_reducible exact Below.refl _ _) | (with_reducible assumption) | (with_reducible refine below_over ?_ _ _) | (with_reducible refine Lw.below_alloc ?_ _) | (with_reducible refine Below.drew ?_) | (with_reducible refine below_drewN ?_ _) | (with_reducible refine Below.setCell ?_ ?_ _) | go_size))))).mono ?_); rintro e w' ⟨rfl, hb⟩; obtain ⟨bs1, d1, rfl⟩ := below_grow hb; clear hb)
      | (go_at_call_of 80 (Value.pointer (some q)); (with_reducible refine (sconfig_any _ _ _ _ _ _ (G.out.up (by (repeat' (first | (with_reducible exact Below.refl _ _) | (with_reducible assumption) | (with_reducible refine below_over ?_ _ _) | (with_reducible refine Lw.below_alloc ?_ _) | (with_reducible refine Below.drew ?_) | (with_reducible refine below_drewN ?_ _) | (with_reducible refine Below.setCell ?_ ?_ _) | go_size))))).mono ?_); rintro e w' ⟨rfl, hb⟩; obtain ⟨bs2, d2, rfl⟩ := below_grow hb; clear hb)
      | (go_at_call_of 110 (Value.pointer (some p)); (with_reducible refine (slevel_any _ _ _ _ _ _ (H.out.up (by (repeat' (first | (with_reducible exact Below.refl _ _) | (with_reducible assumption) | (with_reducible refine below_over ?_ _ _) | (with_reducible refine Lw.below_alloc ?_ _) | (with_reducible refine Below.drew ?_) | (with_reducible refine below_drewN ?_ _) | (with_reducible refine Below.setCell ?_ ?_ _) | go_size))))).mono ?_); rintro e w' ⟨rfl, hb⟩; obtain ⟨bs3, d3, rfl⟩ := below_grow hb; clear hb)
      | (go_at_call_of 110 (Value.pointer (some q)); (with_reducible refine (slevel_any _ _ _ _ _ _ (G.out.up (by (repeat' (first | (with_reducible exact Below.refl _ _) | (with_reducible assumption) | (with_reducible refine below_over ?_ _ _) | (with_reducible refine Lw.below_alloc ?_ _) | (with_reducible refine Below.drew ?_) | (with_reducible refine below_drewN ?_ _) | (with_reducible refine Below.setCell ?_ ?_ _) | go_size))))).mono ?_); rintro e w' ⟨rfl, hb⟩; obtain ⟨bs4, d4, rfl⟩ := below_grow hb; clear hb))
    go_ret
    exact ⟨rfl, by (repeat' (first | (with_reducible exact Below.refl _ _) | (with_reducible assumption) | (with_reducible refine below_over ?_ _ _) | (with_reducible refine Lw.below_alloc ?_ _) | (with_reducible refine Below.drew ?_) | (with_reducible refine below_drewN ?_ _) | (with_reducible refine Below.setCell ?_ ?_ _) | go_size))⟩
  · have hc2 : (c.bt == c'.bt && (c.rw == c'.rw && (c.wd == c'.wd && (c.md == c'.md && c.sd == c'.sd)))) = false := by
      cases hx : (c.bt == c'.bt && (c.rw == c'.rw && (c.wd == c'.wd && (c.md == c'.md && c.sd == c'.sd)))) with
      | false => rfl
      | true => simp at hx; exact absurd (decide_eq_true hx) hc
    clear hn hc
    go_enter Tryz.func79, Tryz.ntmps79
    go_wp2_with (first
      | (go_at_call_of 80 (Value.pointer (some p)); (with_reducible refine (sconfig_any _ _ _ _ _ _ (H.out.up (by (repeat' (first | (with_reducible exact Below.refl _ _) | (with_reducible assumption) | (with_reducible refine below_over ?_ _ _) | (with_reducible refine Lw.below_alloc ?_ _) | (with_reducible refine Below.drew ?_) | (with_reducible refine below_drewN ?_ _) | (with_reducible refine Below.setCell ?_ ?_ _) | go_size))))).mono ?_); rintro e w' ⟨rfl, hb⟩; obtain ⟨bs1, d1, rfl⟩ := below_grow hb; clear hb)
      | (go_at_call_of 80 (Value.pointer (some q)); (with_reducible refine (sconfig_any _ _ _ _ _ _ (G.out.up (by (repeat' (first | (with_reducible exact Below.refl _ _) | (with_reducible assumption) | (with_reducible refine below_over ?_ _ _) | (with_reducible refine Lw.below_alloc ?_ _) | (with_reducible refine Below.drew ?_) | (with_reducible refine below_drewN ?_ _) | (with_reducible refine Below.setCell ?_ ?_ _) | go_size))))).mono ?_); rintro e w' ⟨rfl, hb⟩; obtain ⟨bs2, d2, rfl⟩ := below_grow hb; clear hb)
      | (go_at_call_of 110 (Value.pointer (some p)); (with_reducible refine (slevel_any _ _ _ _ _ _ (H.out.up (by (repeat' (first | (with_reducible exact Below.refl _ _) | (with_reducible assumption) | (with_reducible refine below_over ?_ _ _) | (with_reducible refine Lw.below_alloc ?_ _) | (with_reducible refine Below.drew ?_) | (with_reducible refine below_drewN ?_ _) | (with_reducible refine Below.setCell ?_ ?_ _) | go_size))))).mono ?_); rintro e w' ⟨rfl, hb⟩; obtain ⟨bs3, d3, rfl⟩ := below_grow hb; clear hb)
      | (go_at_call_of 110 (Value.pointer (some q)); (with_reducible refine (slevel_any _ _ _ _ _ _ (G.out.up (by (repeat' (first | (with_reducible exact Below.refl _ _) | (with_reducible assumption) | (with_reducible refine below_over ?_ _ _) | (with_reducible refine Lw.below_alloc ?_ _) | (with_reducible refine Below.drew ?_) | (with_reducible refine below_drewN ?_ _) | (with_reducible refine Below.setCell ?_ ?_ _) | go_size))))).mono ?_); rintro e w' ⟨rfl, hb⟩; obtain ⟨bs4, d4, rfl⟩ := below_grow hb; clear hb))
    all_goals first
      | (exfalso; revert hc2; simp [*]; done)
      | (go_ret; exact ⟨rfl, by (repeat' (first | (with_reducible exact Below.refl _ _) | (with_reducible assumption) | (with_reducible refine below_over ?_ _ _) | (with_reducible refine Lw.below_alloc ?_ _) | (with_reducible refine Below.drew ?_) | (with_reducible refine below_drewN ?_ _) | (with_reducible refine Below.setCell ?_ ?_ _) | go_size))⟩)
theorem inner_nil1 (v : Value) (hv : v = .pointer none ∨ ∃ q, v = .pointer (some q)) (w : World) :
    Calls Tryz.prog 53 #[.pointer none, v] w fun e w' => e = .returned (.tuple #[.agg #[.int .i64 0, .int .u64 0], .int .i64 5]) ∧ Below w.heap.size w w' := by
  have C := Lib.hid (fun w => ialike_nil1 v hv w)
  clear hv
  go_enter Tryz.func53, Tryz.ntmps53
  go_wp2_with (go_at_call 79; (with_reducible refine (C.out _).mono ?_); rintro e w' ⟨rfl, hb⟩; obtain ⟨bs, d, rfl⟩ := below_grow hb; clear hb)
  go_returns
  exact ⟨rfl, by (repeat' (first | (with_reducible exact Below.refl _ _) | (with_reducible assumption) | (with_reducible refine below_over ?_ _ _) | (with_reducible refine Lw.below_alloc ?_ _) | (with_reducible refine Below.drew ?_) | (with_reducible refine below_drewN ?_ _) | (with_reducible refine Below.setCell ?_ ?_ _) | go_size))⟩
theorem inner_nil2 (p : Addr) (w : World) :
    Calls Tryz.prog 53 #[.pointer (some p), .pointer none] w fun e w' => e = .returned (.tuple #[.agg #[.int .i64 0, .int .u64 0], .int .i64 5]) ∧ Below w.heap.size w w' := by
  go_enter Tryz.func53, Tryz.ntmps53
  go_wp2_with (go_at_call 79; (with_reducible refine (ialike_nil2 p _).mono ?_); rintro e w' ⟨rfl, hb⟩; obtain ⟨bs, d, rfl⟩ := below_grow hb; clear hb)
  go_returns
  exact ⟨rfl, by (repeat' (first | (with_reducible exact Below.refl _ _) | (with_reducible assumption) | (with_reducible refine below_over ?_ _ _) | (with_reducible refine Lw.below_alloc ?_ _) | (with_reducible refine Below.drew ?_) | (with_reducible refine below_drewN ?_ _) | (with_reducible refine Below.setCell ?_ ?_ _) | go_size))⟩
theorem inner_no (p : Addr) (F : Nat → Prop) (c : Cfg) (l : Int) (L : List (List Int)) (q : Addr) (G : Nat → Prop) (c' : Cfg) (l' : Int) (M : List (List Int)) (w : World) (h : SK w p F c l L) (g : SK w q G c' l' M) (hn : ¬ (cfgE c c' = true ∧ l = l')) :
    Calls Tryz.prog 53 #[.pointer (some p), .pointer (some q)] w fun e w' => e = .returned (.tuple #[.agg #[.int .i64 0, .int .u64 0], .int .i64 5]) ∧ Below w.heap.size w w' := by
  have C := Lib.hid (fun w' hb => ialike_no p F c l L q G c' l' M w' (h.up (w' := w') hb) (g.up hb) hn)
  clear h g hn
  go_enter Tryz.func53, Tryz.ntmps53
  go_wp2_with (go_at_call 79; (with_reducible refine (C.out _ (by (repeat' (first | (with_reducible exact Below.refl _ _) | (with_reducible assumption) | (with_reducible refine below_over ?_ _ _) | (with_reducible refine Lw.below_alloc ?_ _) | (with_reducible refine Below.drew ?_) | (with_reducible refine below_drewN ?_ _) | (with_reducible refine Below.setCell ?_ ?_ _) | go_size)))).mono ?_); rintro e w' ⟨rfl, hb⟩; obtain ⟨bs, d, rfl⟩ := below_grow hb; clear hb)
  go_returns
  exact ⟨rfl, by (repeat' (first | (with_reducible exact Below.refl _ _) | (with_reducible assumption) | (with_reducible refine below_over ?_ _ _) | (with_reducible refine Lw.below_alloc ?_ _) | (with_reducible refine Below.drew ?_) | (with_reducible refine below_drewN ?_ _) | (with_reducible refine Below.setCell ?_ ?_ _) | go_size))⟩
set_option maxRecDepth 100000 in
theorem inner_mode (p : Addr) (F : Nat → Prop) (c : Cfg) (l : Int) (L : List (List Int)) (q : Addr) (G : Nat → Prop) (M : List (List Int)) (w : World) (h : SK w p F c l L) (g : SK w q G c l M) (hn : c.md ≠ 1) :
    Calls Tryz.prog 53 #[.pointer (some p), .pointer (some q)] w fun e w' => e = .returned (.tuple #[.agg #[.int .i64 0, .int .u64 0], .int .i64 3]) ∧ Below w.heap.size w w' := by
  have C := Lib.hid (fun w' hb => ialike_yes p F c l L q G M w' (h.up (w' := w') hb) (g.up hb))
  have D := Lib.hid (fun w' hb => sconfig_any p F c l L w' (h.up (w' := w') hb))
  have hm : (c.md != 1) = true := by simpa using hn
  clear h g hn
  go_enter Tryz.func53, Tryz.ntmps53
  go_wp2_with (first
    | (go_at_call 79; (with_reducible refine (C.out _ (by (repeat' (first | (with_reducible exact Below.refl _ _) | (with_reducible assumption) | (with_reducible refine below_over ?_ _ _) | (with_reducible refine Lw.below_alloc ?_ _) | (with_reducible refine Below.drew ?_) | (with_reducible refine below_drewN ?_ _) | (with_reducible refine Below.setCell ?_ ?_ _) | go_size)))).mono ?_); rintro e w' ⟨rfl, hb⟩; obtain ⟨bs, d, rfl⟩ := below_grow hb; clear hb)
    | (go_at_call 80; (with_reducible refine (D.out _ (by (repeat' (first | (with_reducible exact Below.refl _ _) | (with_reducible assumption) | (with_reducible refine below_over ?_ _ _) | (with_reducible refine Lw.below_alloc ?_ _) | (with_reducible refine Below.drew ?_) | (with_reducible refine below_drewN ?_ _) | (with_reducible refine Below.setCell ?_ ?_ _) | go_size)))).mono ?_); rintro e w' ⟨rfl, hb⟩; obtain ⟨bs2, d2, rfl⟩ := below_grow hb; clear hb))
  go_returns
  exact ⟨rfl, by (repeat' (first | (with_reducible exact Below.refl _ _) | (with_reducible assumption) | (with_reducible refine below_over ?_ _ _) | (with_reducible refine Lw.below_alloc ?_ _) | (with_reducible refine Below.drew ?_) | (with_reducible refine below_drewN ?_ _) | (with_reducible refine Below.setCell ?_ ?_ _) | go_size))⟩
theorem foldl_min_mem : ∀ (xs : List Int) (x : Int), xs.foldl min x = x ∨ xs.foldl min x ∈ xs
  | [], x => .inl rfl
  | y :: xs, x => by
    simp only [List.foldl_cons]
    rcases foldl_min_mem xs (min x y) with h | h
    · rw [h]
      rcases (show min x y = x ∨ min x y = y by omega) with e | e
      · exact .inl e
      · exact .inr (by rw [e]; simp)
    · exact .inr (by simp [h])
theorem lmin_mem {zs : List Int} (h : zs ≠ []) : lmin zs ∈ zs := by
  match zs, h with
  | x :: zs, _ =>
    rcases foldl_min_mem zs x with e | e
    · show zs.foldl min x ∈ x :: zs
      rw [e]
      simp
    · show zs.foldl min x ∈ x :: zs
      simp [e]
theorem lmin_fit {L M : List (List Int)} {k : Nat} (h1 : 1 ≤ k) (hL : k ≤ L.length) (hM : k ≤ M.length) (h : ∀ (j : Nat) xs ys, j < k → L[j]? = some xs → M[j]? = some ys → dok xs ys = true) : Wid.fit (lmin ((dots L M).take k)) = true := by
  have hl : ((dots L M).take k).length = k := by
    rw [List.length_take]
    unfold dots
    rw [List.length_zipWith]
    omega
  have hne : (dots L M).take k ≠ [] := fun e => by rw [e] at hl; simp at hl; omega
  have hm := lmin_mem hne
  obtain ⟨j, hj⟩ := List.getElem?_of_mem hm
  have hjk : j < k := by
    have := (List.getElem?_eq_some_iff.1 hj).1
    omega
  rw [List.getElem?_take, if_pos hjk] at hj
  have e1 : L[j]? = some L[j] := List.getElem?_eq_getElem (by omega)
  have e2 : M[j]? = some M[j] := List.getElem?_eq_getElem (by omega)
  rw [dots_get e1 e2] at hj
  injection hj with hj
  rw [← hj]
  have hd := dok_fit (h j _ _ hjk e1 e2)
  have h3 := hd.2 L[j].length (Nat.le_refl _)
  rwa [dp_all (Nat.le_refl _) (by rw [← hd.1]; exact Nat.le_refl _)] at h3
theorem alloc_at {X : World} {n : Nat} {vs : Array Value} {t : TypeId} (h : X.heap.size = n) : (X.alloc (.cells vs t)).heap[n]? = some (.cells vs t (0, 0)) := by
  subst h
  exact heap_alloc_new X _
theorem grow_heap {X : World} {b : Nat} {o : Obj} (h : X.heap[b]? = some o) (bs : Array Obj) (d : Nat) : (grow X bs d).heap[b]? = some o := by
  rw [(grow_below X bs d).block b (size_of_heap h)]
  exact h
theorem lt_sz {a b : Nat} (h : a < b) (x : Nat) : a < b + x := by omega
set_option maxRecDepth 100000 in
set_option maxHeartbeats 8000000 in
theorem inner_lin (p : Addr) (F : Nat → Prop) (c : Cfg) (l : Int) (L : List (List Int)) (q : Addr) (G : Nat → Prop) (M : List (List Int)) (w : World) (h : SK w p F c l L) (g : SK w q G c l M) (hm1 : c.md = 1) :
    Calls Tryz.prog 53 #[.pointer (some p), .pointer (some q)] w fun e w' => e = .returned (.tuple #[.agg #[.int .i64 (Wid.fh (inVal c c l l L M)), .int .u64 (Wid.fl (inVal c c l l L M))], .int .i64 (inCode c c l l L M)]) ∧ Below w.heap.size w w' := by
  have hr := h.right.1
  have dL := h.dims
  have dM := g.dims
  have hmd : c.md = 1 := hm1
  have CA := Lib.hid (fun w' hb => ialike_yes p F c l L q G M w' (h.up (w' := w') hb) (g.up hb))
  have CF := Lib.hid (fun w' hb => sconfig_any p F c l L w' (h.up (w' := w') hb))
  have CL := Lib.hid (fun w' hb => scells_mid p F c l L w' (h.up (w' := w') hb))
  have CM := Lib.hid (fun w' hb => scells_mid q G c l M w' (g.up (w' := w') hb))
  have hrw := rws_bd hr
  have hwd := wds_bd hr
  have sL := sz_of_dims dL
  have sM := sz_of_dims dM
  have IY : Hid (oks L M = true → inCode c c l l L M = 0 ∧ inVal c c l l L M = lmin (dots L M)) := Lib.hid (fun ho => in_yes hmd ho)
  have IO : Hid (oks L M = false → inCode c c l l L M = 4 ∧ inVal c c l l L M = 0) := Lib.hid (fun ho => in_over hmd ho)
  have RL : Hid (∀ k r, L[k]? = some r → (L.flatten.drop (k * wds c)).take (wds c) = r ∧ r.length = wds c ∧ In64 r) := Lib.hid (fun k r e => ⟨flat_row sL e, sL.2 r (List.mem_of_getElem? e), (dL.rows r (List.mem_of_getElem? e)).2⟩)
  have RM : Hid (∀ k r, M[k]? = some r → (M.flatten.drop (k * wds c)).take (wds c) = r ∧ r.length = wds c ∧ In64 r) := Lib.hid (fun k r e => ⟨flat_row sM e, sM.2 r (List.mem_of_getElem? e), (dM.rows r (List.mem_of_getElem? e)).2⟩)
  have HLL := Lib.hid (And.intro sL.1 sM.1)
  obtain ⟨m, hmm⟩ : ∃ m, rws c = m := ⟨_, rfl⟩
  obtain ⟨n, hnn⟩ : ∃ n, wds c = n := ⟨_, rfl⟩
  rw [hmm] at CL CM hrw HLL
  rw [hnn] at CL CM hwd RL RM
  have HMQ : Hid (∀ k, k < m → (k + 1) * n ≤ m * n) := Lib.hid (fun k hk => Nat.mul_le_mul hk (Nat.le_refl _))
  obtain ⟨Q, hQ⟩ : ∃ Q, m * n = Q := ⟨_, rfl⟩
  rw [hQ] at CL CM HMQ
  have HRW := Lib.hid hrw.2.2.symm
  have HWD := Lib.hid hwd.2.2.symm
  have hm8 : 1 ≤ m ∧ m ≤ 8 := ⟨hrw.1, hrw.2.1⟩
  have hn8 : 1 ≤ n ∧ n ≤ 128 := ⟨hwd.1, hwd.2.1⟩
  obtain ⟨RV, hRV⟩ : ∃ v, inVal c c l l L M = v := ⟨_, rfl⟩
  obtain ⟨RC, hRC⟩ : ∃ v, inCode c c l l L M = v := ⟨_, rfl⟩
  rw [hRV, hRC] at IY IO ⊢
  have HBX : Hid (Have w (w.alloc (.cells #[.int .i64 0, .int .u64 0] 49)) [boxT w.heap.size 49 #[.int .i64 0, .int .u64 0]]) := Lib.hid (box_new w _ _)
  have hmf : (c.md != 1) = false := by simp [hmd]
  clear hRV hRC hQ hmm hnn sL sM dL dM hr h g hm1 hmd hrw hwd
  go_enter Tryz.func53, Tryz.ntmps53
  go_wp2_with (first
    | (go_at_call 79; (with_reducible refine (CA.out _ HBX.out.below).mono ?_); rintro e w1 ⟨rfl, hb⟩; have HV1 := Lib.hid (HBX.out.up hb); clear hb)
    | (go_at_call 80; (with_reducible refine (CF.out _ HV1.out.below).mono ?_); rintro e w2 ⟨rfl, hb⟩; have HV2 := Lib.hid ((HV1.out.up hb).push (boxT w2.heap.size 24 #[.int .i64 c.bt, .int .i64 c.rw, .int .i64 c.wd, .int .i64 c.md, .int .u64 c.sd]) (Lw.below_alloc (Below.refl _ _) _) (heap_alloc_new w2 _) (fun k hk => Nat.le_of_eq hk.symm)); have cm := box_cell (i := 3) HV2.out.i0 rfl; clear hb)
    | (go_at_call_of 81 (Value.pointer (some p)); (with_reducible refine (CL.out _ HV2.out.below).mono ?_); rintro e w3 ⟨g1, cap1, rfl, h1, h2, hc1, hc2, hb⟩; have HV3 := Lib.hid (HV2.out.push (midT g1 L.flatten) hb h1 (fun k hk => by subst hk; exact h2)); clear h1 h2 hb cm)
    | (go_at_call_of 81 (Value.pointer (some q)); (with_reducible refine (CM.out _ HV3.out.below).mono ?_); rintro e w4 ⟨g2, cap2, rfl, h1, h2, hc3, hc4, hb⟩; have HV4 := Lib.hid (HV3.out.push (midT g2 M.flatten) hb h1 (fun k hk => by subst hk; exact h2)); have HV5 := Lib.hid (HV4.out.push (boxT w4.heap.size 49 #[.int .i64 0, .int .u64 0]) (Lw.below_alloc (Below.refl _ _) _) (heap_alloc_new w4 _) (fun k hk => Nat.le_of_eq hk.symm)); have cr := box_cell (i := 1) HV5.out.i3 rfl; clear h1 h2 hb))
  obtain ⟨gc, hgc⟩ : ∃ gc, w2.heap.size = gc := ⟨_, rfl⟩
  obtain ⟨gl, hgl⟩ : ∃ gl, w4.heap.size = gl := ⟨_, rfl⟩
  rw [hgc] at HV5 cr ⊢
  rw [hgl] at HV5 ⊢
  clear hgc hgl cr
  go_loopw [30] (fun iv wr => ∃ (k : Nat), k ≤ m ∧ iv = .int .i64 k ∧ (∀ j xs ys, j < k → L[j]? = some xs → M[j]? = some ys → dok xs ys = true) ∧ Have w wr [boxT gl 49 #[.int .i64 (Wid.fh (lmin ((dots L M).take k))), .int .u64 (Wid.fl (lmin ((dots L M).take k)))], midT g2 M.flatten, midT g1 L.flatten, boxT gc 24 #[.int .i64 c.bt, .int .i64 c.rw, .int .i64 c.wd, .int .i64 c.md, .int .u64 c.sd], boxT w.heap.size 49 #[.int .i64 0, .int .u64 0]]) (fun iv _ => m - (intOf iv).toNat)
  case atStart => exact ⟨0, Nat.zero_le _, rfl, fun j xs ys hj => by omega, HV5.out⟩
  case round =>
    obtain ⟨k, hk, rfl, hok, hv⟩ := hrel
    have HV := Lib.hid hv
    have HOK := Lib.hid hok
    have HB := Lib.hid hv.below
    clear hv hok
    have cw : wr.cell? ⟨gc, 2, none⟩ = some (.int .i64 c.wd) := box_cell (i := 2) HV.out.i3 rfl
    obtain ⟨l0, l1⟩ := box2 HV.out.i0
    have f0 := boxs_frozen HV.out.i0 0
    have f1 := boxs_frozen HV.out.i0 1
    obtain ⟨r0, r1⟩ := box2 HV.out.i4
    have q0 := boxs_frozen HV.out.i4 0
    have q1 := boxs_frozen HV.out.i4 1
    have hgl := box_lt HV.out.i0
    have hsz := box_lt HV.out.i4
    have lz1 := lt_sz hgl
    have lz2 := lt_sz hsz
    by_cases hlt : k < m
    · have hrc : (k : Int) < c.rw := by rw [HRW.out]; omega
      obtain ⟨xs, hxs⟩ : ∃ xs, L[k]? = some xs := ⟨_, List.getElem?_eq_getElem (by rw [HLL.out.1]; exact hlt)⟩
      obtain ⟨ys, hys⟩ : ∃ ys, M[k]? = some ys := ⟨_, List.getElem?_eq_getElem (by rw [HLL.out.2]; exact hlt)⟩
      obtain ⟨x1, x2, x3⟩ := RL.out k xs hxs
      obtain ⟨y1, y2, y3⟩ := RM.out k ys hys
      have CC1 := Lib.hid (fun w => icut_any g1 Q cap1 k n _ _ k c.wd w rfl HWD.out (by omega) hn8.2 hn8.1 rfl rfl (HMQ.out k hlt) hc1 hc2)
      have CC2 := Lib.hid (fun w => icut_any g2 Q cap2 k n _ _ k c.wd w rfl HWD.out (by omega) hn8.2 hn8.1 rfl rfl (HMQ.out k hlt) hc3 hc4)
      have CD : Hid (∀ w', Below wr.heap.size wr w' → Calls Tryz.prog 82 #[.slice (some ⟨g1, k * n, none⟩) n n, .slice (some ⟨g2, k * n, none⟩) n n] w' fun e w2 => e = .returned (.tuple #[.agg #[.int .i64 (dhi xs ys), .int .u64 (dlo xs ys)], .bool (dok xs ys)]) ∧ Below w'.heap.size w' w2) := Lib.hid (fun w' hb => by
        have hx := row_rd (F := k * n) (n := n) ((midI HV.out.i2).up hb)
        have hy := row_rd (F := k * n) (n := n) ((midI HV.out.i1).up hb)
        rw [x1] at hx
        rw [y1] at hy
        exact idot_any _ _ n n n n xs ys w' hx hy x2 y2 (by omega) x3 y3)
      obtain ⟨Fk, hFk⟩ : ∃ Fk, k * n = Fk := ⟨_, rfl⟩
      rw [hFk] at CC1 CC2 CD
      have HD : Hid (dok xs ys = true → dhi xs ys = Wid.fh (dsum xs ys) ∧ dlo xs ys = Wid.fl (dsum xs ys) ∧ Wid.fit (dsum xs ys) = true) := Lib.hid (fun ho => by
        refine ⟨if_pos ho, if_pos ho, ?_⟩
        have hd := dok_fit ho
        have h3 := hd.2 xs.length (Nat.le_refl _)
        rwa [dp_all (Nat.le_refl _) (by rw [← hd.1]; exact Nat.le_refl _)] at h3)
      have HO : Hid (dok xs ys = false → oks L M = false) := Lib.hid (fun ho => oks_no hxs hys ho)
      have HZ : Hid ((dots L M)[k]? = some (dsum xs ys)) := Lib.hid (dots_get hxs hys)
      have HX := Lib.hid (And.intro hxs hys)
      obtain ⟨ph, hph⟩ : ∃ v, dhi xs ys = v := ⟨_, rfl⟩
      obtain ⟨pl, hpl⟩ : ∃ v, dlo xs ys = v := ⟨_, rfl⟩
      obtain ⟨b, hb⟩ : ∃ v, dok xs ys = v := ⟨_, rfl⟩
      obtain ⟨z, hz⟩ : ∃ v, dsum xs ys = v := ⟨_, rfl⟩
      rw [hph, hpl, hb] at CD
      rw [hph, hpl, hb, hz] at HD
      rw [hb] at HO
      rw [hz] at HZ
      have HBB := Lib.hid hb
      obtain ⟨v, hv⟩ : ∃ v, lmin ((dots L M).take k) = v := ⟨_, rfl⟩
      have HVV := Lib.hid hv
      rw [hv] at l0 l1
      clear hFk hph hpl hb hz hxs hys x1 x2 x3 y1 y2 y3 hv
      go_upto_region 11 with fail
      go_cut [11, 12] (fun s11 s12 wx => ∃ gp : Nat, s11 = .pointer (some ⟨gp, 0, none⟩) ∧ s12 = .bool b ∧ wr.heap.size ≤ gp ∧ Below wr.heap.size wr wx ∧ wx.heap[gp]? = some (.cells #[.int .i64 ph, .int .u64 pl] 49 (0, 0)))
      case first =>
        go_region_held3 (fun w' => w'.cell? ⟨gc, 2, none⟩ = some (.int .i64 c.wd)) (first | (with_reducible assumption) | (refine cell_up cw ?_ <;> (repeat' (first | (with_reducible exact Below.refl _ _) | (with_reducible assumption) | (with_reducible refine below_over ?_ _ _) | (with_reducible refine Lw.below_alloc ?_ _) | (with_reducible refine Below.drew ?_) | (with_reducible refine below_drewN ?_ _) | (with_reducible refine Below.setCell ?_ ?_ _) | go_size)))) (first
          | (go_at_call_of 83 (Value.slice (some ⟨g1, 0, none⟩) Q cap1); (with_reducible refine (CC1.out _).mono ?_); rintro e w' ⟨rfl, hb⟩; obtain ⟨bs1, d1, rfl⟩ := below_grow hb; clear hb)
          | (go_at_call_of 83 (Value.slice (some ⟨g2, 0, none⟩) Q cap2); (with_reducible refine (CC2.out _).mono ?_); rintro e w' ⟨rfl, hb⟩; obtain ⟨bs2, d2, rfl⟩ := below_grow hb; clear hb)
          | (go_at_call 82; (with_reducible refine (CD.out _ (by (repeat' (first | (with_reducible exact Below.refl _ _) | (with_reducible assumption) | (with_reducible refine below_over ?_ _ _) | (with_reducible refine Lw.below_alloc ?_ _) | (with_reducible refine Below.drew ?_) | (with_reducible refine below_drewN ?_ _) | (with_reducible refine Below.setCell ?_ ?_ _) | go_size)))).mono ?_); rintro e w' ⟨rfl, hb⟩; obtain ⟨bs3, d3, rfl⟩ := below_grow hb; clear hb))
        all_goals go_wp2_with fail
        all_goals go_meet
        all_goals refine ⟨_, rfl, rfl, by omega, by (repeat' (first | (with_reducible exact Below.refl _ _) | (with_reducible assumption) | (with_reducible refine below_over ?_ _ _) | (with_reducible refine Lw.below_alloc ?_ _) | (with_reducible refine Below.drew ?_) | (with_reducible refine below_drewN ?_ _) | (with_reducible refine Below.setCell ?_ ?_ _) | go_size)), ?_⟩
        all_goals first | exact alloc_at (by simp) | exact grow_heap (alloc_at (by simp)) _ _
      case rest =>
        obtain ⟨gp, rfl, rfl, hgp, hbx, hpb⟩ := hcut
        have HVc := Lib.hid (HV.out.up hbx)
        have hpb2 : (boxT gp 49 #[.int .i64 ph, .int .u64 pl]).I wc := hpb
        obtain ⟨t0, t1⟩ := box2 hpb2
        have hgp2 := box_lt hpb2
        clear l0 l1 f0 f1 r0 r1 q0 q1 hgl hsz lz1 lz2 cw CC1 CC2 CD hpb hpb2 HV
        have hgl := box_lt HVc.out.i0
        have hsz := box_lt HVc.out.i4
        obtain ⟨l0, l1⟩ := box2 HVc.out.i0
        rw [HVV.out] at l0 l1
        have f0 := boxs_frozen HVc.out.i0 0
        have f1 := boxs_frozen HVc.out.i0 1
        obtain ⟨r0, r1⟩ := box2 HVc.out.i4
        have q0 := boxs_frozen HVc.out.i4 0
        have q1 := boxs_frozen HVc.out.i4 1
        have hbc := HVc.out.below
        clear hbx
        cases b with
        | false =>
          have HN2 := Lib.hid (IO.out (HO.out rfl))
          go_wp2
          refine bodyPost_ret (v := .tuple #[.agg #[.int .i64 0, .int .u64 0], .int .i64 4]) (by simp [results, Tryz.results53, go_sem, r0, r1, q0, q1]) rfl ?_
          exact ⟨by rw [HN2.out.1, HN2.out.2]; rfl, by (repeat' (first | (with_reducible exact Below.refl _ _) | (with_reducible assumption) | (with_reducible refine below_over ?_ _ _) | (with_reducible refine Lw.below_alloc ?_ _) | (with_reducible refine Below.drew ?_) | (with_reducible refine below_drewN ?_ _) | (with_reducible refine Below.setCell ?_ ?_ _) | go_size))⟩
        | true =>
          obtain ⟨rfl, rfl, hfz⟩ := HD.out rfl
          have hzb := fit_bd hfz
          have hvz := Wid.vl_fit z hzb.1 hzb.2
          by_cases hk0 : k = 0
          · have HNX : Hid (lmin ((dots L M).take (k + 1)) = z) := Lib.hid (by
              rw [hk0]
              have h9 := HZ.out
              rw [hk0] at h9
              exact lmin_one h9)
            have hk0b : ((k : Int) == 0) = true := by simp [hk0]
            have HK0 := Lib.hid hk0
            clear hk0 hvz hzb hfz
            go_wp2
            go_roundw
            case rel =>
              refine ⟨k + 1, by omega, by go_num, fun j xs2 ys2 hj h1 h2 => ?_, ?_⟩
              · by_cases hjk : j < k
                · exact HOK.out j xs2 ys2 hjk h1 h2
                · obtain rfl : j = k := by omega
                  rw [HX.out.1] at h1
                  rw [HX.out.2] at h2
                  injection h1 with h1
                  injection h2 with h2
                  subst h1 h2
                  exact HBB.out
              · rw [HNX.out]
                exact ((HVc.out.turn_0 (boxT gl 49 #[.int .i64 (Wid.fh z), .int .u64 (Wid.fl z)]) (store2 HVc.out.i0 _ _) (kept2 wc gl _ _) (fun k hk => .inl hk)).up (by (repeat' (first | (with_reducible exact Below.refl _ _) | (with_reducible assumption) | (with_reducible refine below_over ?_ _ _) | (with_reducible refine Lw.below_alloc ?_ _) | (with_reducible refine Below.drew ?_) | (with_reducible refine below_drewN ?_ _) | (with_reducible refine Below.setCell ?_ ?_ _) | go_size))))
            case measure => simp [intOf]; omega
          · have hk0b : ((k : Int) == 0) = false := by simp; omega
            have hnx := lmin_next HZ.out (by omega)
            rw [HVV.out] at hnx
            have hfv : Wid.fit v = true := by rw [← HVV.out]; exact lmin_fit (by omega) (by rw [HLL.out.1]; omega) (by rw [HLL.out.2]; omega) HOK.out
            have hvb := fit_bd hfv
            have hvv := Wid.vl_fit v hvb.1 hvb.2
            have CS := Lib.hid (fun w => Wid.less_any (Wid.fh z) (Wid.fl z) (Wid.fh v) (Wid.fl v) w (Wid.fh_bd z).1 (Wid.fh_bd z).2 (Wid.fl_bd z).1 (Wid.fl_bd z).2 (Wid.fh_bd v).1 (Wid.fh_bd v).2 (Wid.fl_bd v).1 (Wid.fl_bd v).2)
            rw [hvz, hvv] at CS
            by_cases hzv : z < v
            · have HNX : Hid (lmin ((dots L M).take (k + 1)) = z) := Lib.hid (by rw [hnx]; omega)
              have hd : decide (z < v) = true := decide_eq_true hzv
              rw [hd] at CS
              clear hvz hzb hfz hnx hvb hvv hfv hzv hd hk0
              go_wp2_with (go_at_call 84; (with_reducible refine (CS.out _).mono ?_); rintro e w' ⟨rfl, hb⟩; obtain ⟨bs, d, rfl⟩ := below_grow hb; clear hb)
              go_roundw
              case rel =>
                refine ⟨k + 1, by omega, by go_num, fun j xs2 ys2 hj h1 h2 => ?_, ?_⟩
                · by_cases hjk : j < k
                  · exact HOK.out j xs2 ys2 hjk h1 h2
                  · obtain rfl : j = k := by omega
                    rw [HX.out.1] at h1
                    rw [HX.out.2] at h2
                    injection h1 with h1
                    injection h2 with h2
                    subst h1 h2
                    exact HBB.out
                · rw [HNX.out]
                  exact ((HVc.out.turn_0 (boxT gl 49 #[.int .i64 (Wid.fh z), .int .u64 (Wid.fl z)]) (store2 HVc.out.i0 _ _) (kept2 wc gl _ _) (fun k hk => .inl hk)).up (by (repeat' (first | (with_reducible exact Below.refl _ _) | (with_reducible assumption) | (with_reducible refine below_over ?_ _ _) | (with_reducible refine Lw.below_alloc ?_ _) | (with_reducible refine Below.drew ?_) | (with_reducible refine below_drewN ?_ _) | (with_reducible refine Below.setCell ?_ ?_ _) | go_size))))
              case measure => simp [intOf]; omega
            · have HNX : Hid (lmin ((dots L M).take (k + 1)) = v) := Lib.hid (by rw [hnx]; omega)
              have hd : decide (z < v) = false := decide_eq_false hzv
              rw [hd] at CS
              clear hvz hzb hfz hnx hvb hvv hfv hzv hd hk0
              go_wp2_with (go_at_call 84; (with_reducible refine (CS.out _).mono ?_); rintro e w' ⟨rfl, hb⟩; obtain ⟨bs, d, rfl⟩ := below_grow hb; clear hb)
              go_roundw
              case rel =>
                refine ⟨k + 1, by omega, by go_num, fun j xs2 ys2 hj h1 h2 => ?_, ?_⟩
                · by_cases hjk : j < k
                  · exact HOK.out j xs2 ys2 hjk h1 h2
                  · obtain rfl : j = k := by omega
                    rw [HX.out.1] at h1
                    rw [HX.out.2] at h2
                    injection h1 with h1
                    injection h2 with h2
                    subst h1 h2
                    exact HBB.out
                · rw [HNX.out]
                  rw [HVV.out] at HVc
                  exact (HVc.out.up (by (repeat' (first | (with_reducible exact Below.refl _ _) | (with_reducible assumption) | (with_reducible refine below_over ?_ _ _) | (with_reducible refine Lw.below_alloc ?_ _) | (with_reducible refine Below.drew ?_) | (with_reducible refine below_drewN ?_ _) | (with_reducible refine Below.setCell ?_ ?_ _) | go_size))))
              case measure => simp [intOf]; omega
    · have e : k = m := by omega
      subst e
      have hrc : ¬ (k : Int) < c.rw := by rw [HRW.out]; omega
      have hok : oks L M = true := oks_yes (by rw [HLL.out.1, HLL.out.2]) (fun j xs ys h1 h2 => HOK.out j xs ys (by have := (List.getElem?_eq_some_iff.1 h1).1; rw [HLL.out.1] at this; exact this) h1 h2)
      have HN2 := Lib.hid (IY.out hok)
      have hfull : (dots L M).take k = dots L M := List.take_of_length_le (by unfold dots; rw [List.length_zipWith, HLL.out.1]; omega)
      rw [hfull, ← HN2.out.2] at l0 l1
      obtain ⟨a0, ha0⟩ : ∃ v, Wid.fh RV = v := ⟨_, rfl⟩
      obtain ⟨a1, ha1⟩ : ∃ v, Wid.fl RV = v := ⟨_, rfl⟩
      rw [ha0] at l0
      rw [ha1] at l1
      have HA := Lib.hid (And.intro ha0 ha1)
      clear hok hfull ha0 ha1
      go_wp2
      refine bodyPost_ret (v := .tuple #[.agg #[.int .i64 a0, .int .u64 a1], .int .i64 0]) (by simp [results, Tryz.results53, go_sem, r0, r1, q0, q1]) rfl ?_
      have hbc := HB.out
      exact ⟨by rw [HN2.out.1, HA.out.1, HA.out.2], by (repeat' (first | (with_reducible exact Below.refl _ _) | (with_reducible assumption) | (with_reducible refine below_over ?_ _ _) | (with_reducible refine Lw.below_alloc ?_ _) | (with_reducible refine Below.drew ?_) | (with_reducible refine below_drewN ?_ _) | (with_reducible refine Below.setCell ?_ ?_ _) | go_size))⟩
theorem inner_any (p : Addr) (F : Nat → Prop) (c : Cfg) (l : Int) (L : List (List Int)) (q : Addr) (G : Nat → Prop) (c' : Cfg) (l' : Int) (M : List (List Int)) (w : World) (h : SK w p F c l L) (g : SK w q G c' l' M) :
    Calls Tryz.prog 53 #[.pointer (some p), .pointer (some q)] w fun e w' => e = .returned (.tuple #[.agg #[.int .i64 (Wid.fh (inVal c c' l l' L M)), .int .u64 (Wid.fl (inVal c c' l l' L M))], .int .i64 (inCode c c' l l' L M)]) ∧ Below w.heap.size w w' := by
  have z0 : Wid.fh 0 = 0 ∧ Wid.fl 0 = 0 := by decide
  by_cases hn : cfgE c c' = true ∧ l = l'
  · obtain ⟨hc, rfl⟩ := hn
    obtain ⟨e0, e1, e2, e3, e4⟩ := of_decide_eq_true hc
    obtain rfl : c = c' := by
      cases c; cases c'
      simp only at e0 e1 e2 e3 e4
      subst e0 e1 e2 e3 e4
      rfl
    by_cases hm : c.md = 1
    · exact inner_lin p F c l L q G M w h g hm
    · rw [(in_mode hm).1, (in_mode hm).2, z0.1, z0.2]
      exact inner_mode p F c l L q G M w h g hm
  · rw [(in_no hn).1, (in_no hn).2, z0.1, z0.2]
    exact inner_no p F c l L q G c' l' M w h g hn
end Go.Proofs.YtkannodfamnmcaaGreat.Inn
/- What the statements of layer 11 lean on: shown. Printed by wip/gen/innlaws.py. -/
namespace Go.Proofs.YtkannodfamnmcaaGreat.Inn
open Go Go.RowKit Lw Grd Lin Con Shp Sk
set_option linter.unusedVariables false
set_option linter.unusedSimpArgs false
def sI : Cfg := ⟨2, 2, 1, 1, 0⟩
theorem sI_ok : sI.Ok := by constructor <;> decide
theorem sI_r : IsRight sI := by decide
theorem sI_k0 : keys sI 0 = 4 := by decide
theorem sI_cols {k : Int} (h1 : k < 4) : cols sI 0 k = [0, 0] := by
  have h : ∀ r, col sI 0 k r = 0 := fun r => by
    have h2 := col_range sI_r 0 k r
    have e : sI.wd = 1 := rfl
    omega
  rw [cols_yes (by rw [sI_k0]; exact h1)]
  show (List.range 2).map (col sI 0 k) = [0, 0]
  simp [List.range, List.range.loop, h]
def iB : List (List Int) := [[5], [5]]
def iD : List (List Int) := [[7], [7]]
theorem iu1 : upCode sI 0 (zerosL 2 1) 1 5 = 0 ∧ upRes sI 0 (zerosL 2 1) 1 5 = iB := by
  unfold upCode upRes
  rw [sI_cols (by omega), sI_k0, if_neg (by omega), if_neg (by decide), if_neg (by omega), if_neg (by decide)]
  decide
theorem iu2 : upCode sI 0 (zerosL 2 1) 2 7 = 0 ∧ upRes sI 0 (zerosL 2 1) 2 7 = iD := by
  unfold upCode upRes
  rw [sI_cols (by omega), sI_k0, if_neg (by omega), if_neg (by decide), if_neg (by omega), if_neg (by decide)]
  decide
theorem ii : inCode sI sI 0 0 iB iD = 0 ∧ inVal sI sI 0 0 iB iD = 35 := by decide
theorem in_new (w : World) : Calls Tryz.prog 31 #[.agg #[.int .i64 2, .int .i64 2, .int .i64 1, .int .i64 1, .int .u64 0], .int .i64 0] w fun e w' => ∃ (p : Addr) (F : Nat → Prop), e = .returned (.tuple #[.pointer (some p), .int .i64 0]) ∧ SK w' p F sI 0 (zerosL 2 1) ∧ (∀ k, F k → w.heap.size ≤ k) ∧ Below w.heap.size w w' := snew_yes sI 0 w sI_ok (by omega) (by omega) (by rw [sI_k0]; omega)
theorem in_up (p : Addr) (F : Nat → Prop) (L M : List (List Int)) (k d x : Int) (w : World) (h : SK w p F sI 0 L) (k0 : 0 ≤ k) (k1 : k ≤ 18446744073709551615) (d0 : -9223372036854775808 ≤ d) (d1 : d ≤ 9223372036854775807) (hu : upCode sI 0 L k d = x ∧ upRes sI 0 L k d = M) :
    Calls Tryz.prog 166 #[.pointer (some p), .int .u64 k, .int .i64 d] w fun e w' => e = .returned (.int .i64 x) ∧ ∃ F', SK w' p F' sI 0 M ∧ Kept F w w' ∧ (∀ q, F' q → F q ∨ w.heap.size ≤ q) := by
  have C := supd_any p F sI 0 L k d w h k0 k1 d0 d1
  rw [hu.1, hu.2] at C
  exact C
theorem in_in (p : Addr) (F : Nat → Prop) (q : Addr) (G : Nat → Prop) (w : World) (h : SK w p F sI 0 iB) (g : SK w q G sI 0 iD) :
    Calls Tryz.prog 53 #[.pointer (some p), .pointer (some q)] w fun e w' => e = .returned (.tuple #[.agg #[.int .i64 0, .int .u64 35], .int .i64 0]) ∧ Below w.heap.size w w' := by
  have C := inner_any p F sI 0 iB q G sI 0 iD w h g
  rw [ii.1, ii.2, (show Wid.fh 35 = 0 by decide), (show Wid.fl 35 = 35 by decide)] at C
  exact C
theorem in_dot (a b : Nat) (w : World) (h0 : w.cell? ⟨a, 0, none⟩ = some (.int .i64 1)) (h1 : w.cell? ⟨a, 1, none⟩ = some (.int .i64 2)) (g0 : w.cell? ⟨b, 0, none⟩ = some (.int .i64 3)) (g1 : w.cell? ⟨b, 1, none⟩ = some (.int .i64 (-4))) :
    Calls Tryz.prog 82 #[.slice (some ⟨a, 0, none⟩) 2 2, .slice (some ⟨b, 0, none⟩) 2 2] w fun e w' => e = .returned (.tuple #[.agg #[.int .i64 (-1), .int .u64 18446744073709551611], .bool true]) ∧ Below w.heap.size w w' := by
  have C := idot_any (some ⟨a, 0, none⟩) (some ⟨b, 0, none⟩) 2 2 2 2 [1, 2] [3, -4] w (rd2 h0 h1) (rd2 g0 g1) rfl rfl (by omega) (by intro v hv; simp at hv; omega) (by intro v hv; simp at hv; omega)
  rw [(show dhi [1, 2] [3, -4] = -1 by decide), (show dlo [1, 2] [3, -4] = 18446744073709551611 by decide), (show dok [1, 2] [3, -4] = true by decide)] at C
  exact C
theorem in_dno (a : Nat) (w : World) :
    Calls Tryz.prog 82 #[.slice (some ⟨a, 0, none⟩) 1 1, .slice none 0 0] w fun e w' => e = .returned (.tuple #[.agg #[.int .i64 0, .int .u64 0], .bool false]) ∧ Below w.heap.size w w' := by
  have C := idot_ne (some ⟨a, 0, none⟩) none 1 0 1 0 [1] [] w rfl rfl (by omega)
  rw [(show dhi [1] [] = 0 by decide), (show dlo [1] [] = 0 by decide), (show dok [1] [] = false by decide)] at C
  exact C
theorem in_of (n a b : Int) (w : World) (h0 : -9223372036854775808 ≤ n) (h1 : n ≤ 9223372036854775807) (ha : Wid.fh n = a) (hb : Wid.fl n = b) :
    Calls Tryz.prog 27 #[.int .i64 n] w fun e w' => e = .returned (.agg #[.int .i64 a, .int .u64 b]) ∧ Below w.heap.size w w' := by
  have C := Wid.of_any n w h0 h1
  rw [ha, hb] at C
  exact C
end Go.Proofs.YtkannodfamnmcaaGreat.Inn
/- The walk of the document's sums of products: gaugerref11.Dot. Printed by wip/gen/inn.py. -/
namespace Go.Proofs.YtkannodfamnmcaaGreat.Inn
open Go Go.RowKit Lw
set_option linter.unusedVariables false
set_option linter.unusedSimpArgs false
theorem rdot_ne (A B : Option Addr) (n m ca cb : Nat) (xs ys : List Int) (w : World) (hlx : xs.length = n) (hly : ys.length = m) (hne : n ≠ m) :
    Calls Tryz.prog 56 #[.slice A n ca, .slice B m cb] w fun e w' => e = .returned (.tuple #[.agg #[.int .i64 (dhi xs ys), .int .u64 (dlo xs ys)], .bool (dok xs ys)]) ∧ Below w.heap.size w w' := by
  have h := dok_ne (xs := xs) (ys := ys) (by omega)
  have hb : ((n : Int) != (m : Int)) = true := by simp; omega
  rw [h.1, h.2.1, h.2.2]
  clear h
  go_enter Tryz.func56, Tryz.ntmps56
  go_wp2
  go_returns
  exact ⟨rfl, by (repeat' (first | (with_reducible exact Below.refl _ _) | (with_reducible assumption) | (with_reducible refine below_over ?_ _ _) | (with_reducible refine Lw.below_alloc ?_ _) | (with_reducible refine Below.drew ?_) | (with_reducible refine below_drewN ?_ _) | (with_reducible refine Below.setCell ?_ ?_ _) | go_size))⟩
theorem long_info : (Tryz.prog.info? 133).map (·.size) = some 10 := by kernel_rfl
set_option maxRecDepth 100000 in
set_option maxHeartbeats 8000000 in
theorem rdot_eq (A B : Option Addr) (n ca cb : Nat) (xs ys : List Int) (w : World) (hx : Rd .i64 w A xs) (hy : Rd .i64 w B ys) (hlx : xs.length = n) (hly : ys.length = n) (hn : n ≤ 1000) (hzx : In64 xs) (hzy : In64 ys) :
    Calls Tryz.prog 56 #[.slice A n ca, .slice B n cb] w fun e w' => e = .returned (.tuple #[.agg #[.int .i64 (dhi xs ys), .int .u64 (dlo xs ys)], .bool (dok xs ys)]) ∧ Below w.heap.size w w' := by
  have HX := Lib.hid hx
  have HY := Lib.hid hy
  have HLX := Lib.hid hlx
  have HLY := Lib.hid hly
  have HZX := Lib.hid hzx
  have HZY := Lib.hid hzy
  clear hx hy hlx hly hzx hzy
  go_enter Tryz.func56, Tryz.ntmps56
  go_wp2
  go_loopw [7] (fun i wr => ∃ k : Nat, k ≤ n ∧ i = .int .i64 k ∧ Below w.heap.size w wr ∧ (∀ j, j ≤ k → Wid.fit (dp xs ys j) = true) ∧ wr.cell? ⟨w.heap.size, 0, none⟩ = some (.int .i64 0) ∧ wr.cell? ⟨w.heap.size, 1, none⟩ = some (.int .u64 0) ∧ wr.frozen? ⟨w.heap.size, 0, none⟩ = false ∧ wr.frozen? ⟨w.heap.size, 1, none⟩ = false ∧ Wid.LBlk wr (w.heap.size + 1) (dp xs ys k)) (fun i _ => n - (intOf i).toNat)
  case atStart =>
    refine ⟨0, Nat.zero_le _, rfl, by (repeat' (first | (with_reducible exact Below.refl _ _) | (with_reducible assumption) | (with_reducible refine below_over ?_ _ _) | (with_reducible refine Lw.below_alloc ?_ _) | (with_reducible refine Below.drew ?_) | (with_reducible refine below_drewN ?_ _) | (with_reducible refine Below.setCell ?_ ?_ _) | go_size)), ?_, ?_, ?_, ?_, ?_, ?_⟩
    · intro j hj
      obtain rfl : j = 0 := by omega
      rw [dp_0]
      decide
    all_goals (try rw [dp_0])
    all_goals first
      | (simp [go_sem]; done)
      | (have h := heap_alloc_new (w.alloc (.cells #[.int .i64 0, .int .u64 0] 49)) (.cells #[.int .i64 0, .int .i64 0, .int .i64 0, .int .i64 0, .int .i64 0, .int .i64 0, .int .i64 0, .int .i64 0, .int .i64 0, .int .i64 0] 133); rw [World.size_alloc] at h; simpa [Wid.LBlk, Wid.dcells, Wid.dg] using h)
  case round =>
    obtain ⟨k, hk, rfl, hbel, hfit, r0, r1, q0, q1, hblk⟩ := hrel
    have hfk := hfit k (Nat.le_refl _)
    obtain ⟨s, hs⟩ : ∃ s, dp xs ys k = s := ⟨_, rfl⟩
    rw [hs] at hblk hfk
    have hsb := fit_bd hfk
    have HF := Lib.hid hfit
    have hz1 := Lw.cell_lt r0
    have hzlt := Wid.blk_lt hblk
    simp only at hz1
    have lz1 : ∀ x : Nat, w.heap.size < wr.heap.size + x := fun x => by omega
    have HBK := Lib.hid hblk
    have hR : wr.rangeAt (w.heap.size + 1) 0 [.int .i64 (Wid.dg s 0), .int .i64 (Wid.dg s 1), .int .i64 (Wid.dg s 2), .int .i64 (Wid.dg s 3), .int .i64 (Wid.dg s 4), .int .i64 (Wid.dg s 5), .int .i64 (Wid.dg s 6), .int .i64 (Wid.dg s 7), .int .i64 (Wid.dg s 8), .int .i64 (Wid.dg s 9)] := box_range (e := 133) (vs := [.int .i64 (Wid.dg s 0), .int .i64 (Wid.dg s 1), .int .i64 (Wid.dg s 2), .int .i64 (Wid.dg s 3), .int .i64 (Wid.dg s 4), .int .i64 (Wid.dg s 5), .int .i64 (Wid.dg s 6), .int .i64 (Wid.dg s 7), .int .i64 (Wid.dg s 8), .int .i64 (Wid.dg s 9)]) hblk
    have f0 := Wid.blk_frozen hblk 0
    have k0 : wr.cell? ⟨w.heap.size + 1, 0, none⟩ = some (.int .i64 (Wid.dg s 0)) := cell_of_row _ _ _ _ _ _ hblk
    have f1 := Wid.blk_frozen hblk 1
    have k1 : wr.cell? ⟨w.heap.size + 1, 1, none⟩ = some (.int .i64 (Wid.dg s 1)) := cell_of_row _ _ _ _ _ _ hblk
    have f2 := Wid.blk_frozen hblk 2
    have k2 : wr.cell? ⟨w.heap.size + 1, 2, none⟩ = some (.int .i64 (Wid.dg s 2)) := cell_of_row _ _ _ _ _ _ hblk
    have f3 := Wid.blk_frozen hblk 3
    have k3 : wr.cell? ⟨w.heap.size + 1, 3, none⟩ = some (.int .i64 (Wid.dg s 3)) := cell_of_row _ _ _ _ _ _ hblk
    have f4 := Wid.blk_frozen hblk 4
    have k4 : wr.cell? ⟨w.heap.size + 1, 4, none⟩ = some (.int .i64 (Wid.dg s 4)) := cell_of_row _ _ _ _ _ _ hblk
    have f5 := Wid.blk_frozen hblk 5
    have k5 : wr.cell? ⟨w.heap.size + 1, 5, none⟩ = some (.int .i64 (Wid.dg s 5)) := cell_of_row _ _ _ _ _ _ hblk
    have f6 := Wid.blk_frozen hblk 6
    have k6 : wr.cell? ⟨w.heap.size + 1, 6, none⟩ = some (.int .i64 (Wid.dg s 6)) := cell_of_row _ _ _ _ _ _ hblk
    have f7 := Wid.blk_frozen hblk 7
    have k7 : wr.cell? ⟨w.heap.size + 1, 7, none⟩ = some (.int .i64 (Wid.dg s 7)) := cell_of_row _ _ _ _ _ _ hblk
    have f8 := Wid.blk_frozen hblk 8
    have k8 : wr.cell? ⟨w.heap.size + 1, 8, none⟩ = some (.int .i64 (Wid.dg s 8)) := cell_of_row _ _ _ _ _ _ hblk
    have f9 := Wid.blk_frozen hblk 9
    have k9 : wr.cell? ⟨w.heap.size + 1, 9, none⟩ = some (.int .i64 (Wid.dg s 9)) := cell_of_row _ _ _ _ _ _ hblk
    clear hblk
    by_cases hlt : k < n
    · skip
      have hk1 : k < xs.length := by have := HLX.out; omega
      have hk2 : k < ys.length := by have := HLY.out; omega
      obtain ⟨x, hvx⟩ : ∃ x, xs[k]? = some x := ⟨_, List.getElem?_eq_getElem hk1⟩
      obtain ⟨y, hvy⟩ : ∃ y, ys[k]? = some y := ⟨_, List.getElem?_eq_getElem hk2⟩
      have hbx := HZX.out.at hvx
      have hby := HZY.out.at hvy
      have hnext := dp_next hvx hvy
      obtain ⟨ad, rfl, hcx⟩ := HX.out k x hvx
      obtain ⟨bd, rfl, hcy⟩ := HY.out k y hvy
      have cx : wr.cell? (ad.add k) = some (.int .i64 x) := by rw [hbel.cell (Lw.cell_lt hcx)]; exact hcx
      have cy : wr.cell? (bd.add k) = some (.int .i64 y) := by rw [hbel.cell (Lw.cell_lt hcy)]; exact hcy
      have hpb := prod_bd hbx hby
      rw [hs] at hnext
      obtain ⟨p, hp⟩ : ∃ p, x * y = p := ⟨_, rfl⟩
      rw [hp] at hnext hpb
      obtain ⟨z, hz⟩ : ∃ z, s + p = z := ⟨_, rfl⟩
      have hzb : -730750818665451459101842416358141509827966271488 ≤ z ∧ z < 730750818665451459101842416358141509827966271488 := by omega
      rw [hz] at hnext
      have HN := Lib.hid hnext
      have CX := Lib.hid (fun w => Wid.rofint_any x w hbx.1 hbx.2)
      have CY := Lib.hid (fun w => Wid.rofint_any y w hby.1 hby.2)
      have CM := Lib.hid (fun w => Wid.rmul_any x y _ _ _ _ _ _ _ _ _ _ _ _ _ _ _ _ _ _ _ _ w rfl rfl)
      have CP := Lib.hid (fun w => Wid.rplus_any s p _ _ _ _ _ _ _ _ _ _ _ _ _ _ _ _ _ _ _ _ w rfl rfl)
      have CW := Lib.hid (fun w => Wid.rwide_any z _ _ _ _ _ _ _ _ _ _ w rfl hzb.1 hzb.2)
      rw [hp] at CM
      rw [hz] at CP
      obtain ⟨fhz, hfhz⟩ : ∃ v, Wid.fh z = v := ⟨_, rfl⟩
      obtain ⟨flz, hflz⟩ : ∃ v, Wid.fl z = v := ⟨_, rfl⟩
      obtain ⟨b, hb⟩ : ∃ v, Wid.fit z = v := ⟨_, rfl⟩
      rw [hfhz, hflz, hb] at CW
      have HB := Lib.hid hb
      have HNO : Hid (Wid.fit z = false → dok xs ys = false ∧ dhi xs ys = 0 ∧ dlo xs ys = 0) := Lib.hid (fun hb2 => dok_no (xs := xs) (ys := ys) (k := k + 1) hk1 (by rw [HN.out, hb2]))
      clear hfhz hflz hb hz hzb hnext hp hpb hbx hby hvx hvy hk1 hk2 hfit hfk hsb hs hcx hcy
      have gx : ∀ bs d, (grow wr bs d).cell? (ad.add k) = some (.int .i64 x) := fun bs d => cell_up cx (grow_below wr bs d)
      have gy : ∀ bs d, (grow wr bs d).cell? (bd.add k) = some (.int .i64 y) := fun bs d => cell_up cy (grow_below wr bs d)
      go_upto_region 7 with fail
      go_cut [34] from 16 to 42 (fun s34 wx => Below w.heap.size w wx ∧ wx.cell? ⟨w.heap.size, 0, none⟩ = some (.int .i64 0) ∧ wx.cell? ⟨w.heap.size, 1, none⟩ = some (.int .u64 0) ∧ wx.frozen? ⟨w.heap.size, 0, none⟩ = false ∧ wx.frozen? ⟨w.heap.size, 1, none⟩ = false ∧ Wid.LBlk wx (w.heap.size + 1) z)
      case first =>
        clear CW HF HN HB
        go_region_with (first
          | (go_at_call_of 70 (Value.int .i64 x); (with_reducible refine (CX.out _).mono ?_); rintro e w' ⟨rfl, hb⟩; obtain ⟨bs, d, rfl⟩ := below_grow hb; clear hb)
          | (go_at_call_of 70 (Value.int .i64 y); (with_reducible refine (CY.out _).mono ?_); rintro e w' ⟨rfl, hb⟩; obtain ⟨bs2, d2, rfl⟩ := below_grow hb; clear hb)
          | (go_at_call 90; (with_reducible refine (CM.out _).mono ?_); rintro e w' ⟨rfl, hb⟩; obtain ⟨bs3, d3, rfl⟩ := below_grow hb; clear hb)
          | (go_at_call 73; (with_reducible refine (CP.out _).mono ?_); rintro e w' ⟨rfl, hb⟩; obtain ⟨bs4, d4, rfl⟩ := below_grow hb; clear hb))
        all_goals go_wp2_with fail
        all_goals go_meet
        all_goals refine ⟨by (repeat' (first | (with_reducible exact Below.refl _ _) | (with_reducible assumption) | (with_reducible refine below_over ?_ _ _) | (with_reducible refine Lw.below_alloc ?_ _) | (with_reducible refine Below.drew ?_) | (with_reducible refine below_drewN ?_ _) | (with_reducible refine Below.setCell ?_ ?_ _) | go_size)), by simp [go_sem, r0, hz1, lz1], by simp [go_sem, r1, hz1, lz1], by simp [go_sem, q0, hz1, lz1], by simp [go_sem, q1, hz1, lz1], ?_⟩
        all_goals exact Wid.blk_grow (Wid.LBlk.set HBK.out z) _ _
      case rest =>
        obtain ⟨hbel2, g0, g1, h0, h1, hblk2⟩ := hcut
        clear k0 k1 k2 k3 k4 k5 k6 k7 k8 k9 f0 f1 f2 f3 f4 f5 f6 f7 f8 f9 r0 r1 q0 q1 gx gy cx cy hR HBK CX CY CM CP hzlt hz1 lz1 hbel
        have hz1 := Lw.cell_lt g0
        have hzlt := Wid.blk_lt hblk2
        simp only at hz1
        have HBK := Lib.hid hblk2
        have k0 : wc.cell? ⟨w.heap.size + 1, 0, none⟩ = some (.int .i64 (Wid.dg z 0)) := cell_of_row _ _ _ _ _ _ hblk2
        have k1 : wc.cell? ⟨w.heap.size + 1, 1, none⟩ = some (.int .i64 (Wid.dg z 1)) := cell_of_row _ _ _ _ _ _ hblk2
        have k2 : wc.cell? ⟨w.heap.size + 1, 2, none⟩ = some (.int .i64 (Wid.dg z 2)) := cell_of_row _ _ _ _ _ _ hblk2
        have k3 : wc.cell? ⟨w.heap.size + 1, 3, none⟩ = some (.int .i64 (Wid.dg z 3)) := cell_of_row _ _ _ _ _ _ hblk2
        have k4 : wc.cell? ⟨w.heap.size + 1, 4, none⟩ = some (.int .i64 (Wid.dg z 4)) := cell_of_row _ _ _ _ _ _ hblk2
        have k5 : wc.cell? ⟨w.heap.size + 1, 5, none⟩ = some (.int .i64 (Wid.dg z 5)) := cell_of_row _ _ _ _ _ _ hblk2
        have k6 : wc.cell? ⟨w.heap.size + 1, 6, none⟩ = some (.int .i64 (Wid.dg z 6)) := cell_of_row _ _ _ _ _ _ hblk2
        have k7 : wc.cell? ⟨w.heap.size + 1, 7, none⟩ = some (.int .i64 (Wid.dg z 7)) := cell_of_row _ _ _ _ _ _ hblk2
        have k8 : wc.cell? ⟨w.heap.size + 1, 8, none⟩ = some (.int .i64 (Wid.dg z 8)) := cell_of_row _ _ _ _ _ _ hblk2
        have k9 : wc.cell? ⟨w.heap.size + 1, 9, none⟩ = some (.int .i64 (Wid.dg z 9)) := cell_of_row _ _ _ _ _ _ hblk2
        clear hblk2
        have lz1 : ∀ x : Nat, w.heap.size < wc.heap.size + x := fun x => by omega
        cases b with
        | true =>
          go_wp2_with (go_at_call 91; (with_reducible refine (CW.out _).mono ?_); rintro e w' ⟨rfl, hb⟩; obtain ⟨bs, d, rfl⟩ := below_grow hb; clear hb)
          go_roundw
          case rel =>
            refine ⟨k + 1, by omega, by go_num, by (repeat' (first | (with_reducible exact Below.refl _ _) | (with_reducible assumption) | (with_reducible refine below_over ?_ _ _) | (with_reducible refine Lw.below_alloc ?_ _) | (with_reducible refine Below.drew ?_) | (with_reducible refine below_drewN ?_ _) | (with_reducible refine Below.setCell ?_ ?_ _) | go_size)), ?_, by simp [go_sem, g0, hz1, lz1], by simp [go_sem, g1, hz1, lz1], by simp [go_sem, h0, hz1, lz1], by simp [go_sem, h1, hz1, lz1], ?_⟩
            · intro j hj
              rcases Nat.lt_or_ge k j with h1 | h1
              · obtain rfl : j = k + 1 := by omega
                rw [HN.out]
                exact HB.out
              · exact HF.out j h1
            · rw [HN.out]
              exact Kept.heap (F := fun _ => False) (Kept.of_below (by (repeat' (first | (with_reducible exact Below.refl _ _) | (with_reducible assumption) | (with_reducible refine below_over ?_ _ _) | (with_reducible refine Lw.below_alloc ?_ _) | (with_reducible refine Below.drew ?_) | (with_reducible refine below_drewN ?_ _) | (with_reducible refine Below.setCell ?_ ?_ _) | go_size)))) HBK.out (fun h => h)
          case measure => simp [intOf]; omega
        | false =>
          have HN2 := Lib.hid (HNO.out HB.out)
          clear HNO
          go_wp2_with (go_at_call 91; (with_reducible refine (CW.out _).mono ?_); rintro e w' ⟨rfl, hb⟩; obtain ⟨bs, d, rfl⟩ := below_grow hb; clear hb)
          refine bodyPost_ret (v := .tuple #[.agg #[.int .i64 0, .int .u64 0], .bool false]) (by simp [results, Tryz.results56, go_sem, g0, g1, h0, h1, lz1, hz1]) rfl ?_
          exact ⟨by rw [HN2.out.1, HN2.out.2.1, HN2.out.2.2], by (repeat' (first | (with_reducible exact Below.refl _ _) | (with_reducible assumption) | (with_reducible refine below_over ?_ _ _) | (with_reducible refine Lw.below_alloc ?_ _) | (with_reducible refine Below.drew ?_) | (with_reducible refine below_drewN ?_ _) | (with_reducible refine Below.setCell ?_ ?_ _) | go_size))⟩
    · have e : k = n := by omega
      subst e
      have h1 := dok_yes (xs := xs) (ys := ys) (by rw [HLX.out, HLY.out]) (by rw [HLX.out]; exact hfit)
      rw [← dp_all (xs := xs) (ys := ys) (k := k) (by rw [HLX.out]; omega) (by rw [HLY.out]; omega), hs] at h1
      have CW := Lib.hid (fun w => Wid.rwide_any s _ _ _ _ _ _ _ _ _ _ w rfl (by omega) (by omega))
      rw [hfk] at CW
      obtain ⟨fhs, hfhs⟩ : ∃ v, Wid.fh s = v := ⟨_, rfl⟩
      obtain ⟨fls, hfls⟩ : ∃ v, Wid.fl s = v := ⟨_, rfl⟩
      rw [hfhs, hfls] at h1 CW
      have H1 := Lib.hid h1
      clear h1 hfhs hfls hsb hs hfk hfit hR f0 f1 f2 f3 f4 f5 f6 f7 f8 f9
      go_wp2_with (go_at_call 91; (with_reducible refine (CW.out _).mono ?_); rintro e w' ⟨rfl, hb⟩; obtain ⟨bs, d, rfl⟩ := below_grow hb; clear hb)
      refine bodyPost_ret (v := .tuple #[.agg #[.int .i64 fhs, .int .u64 fls], .bool true]) (by simp [results, Tryz.results56, go_sem, r0, r1, q0, q1, lz1, hz1]) rfl ?_
      exact ⟨by rw [H1.out.1, H1.out.2.1, H1.out.2.2], by (repeat' (first | (with_reducible exact Below.refl _ _) | (with_reducible assumption) | (with_reducible refine below_over ?_ _ _) | (with_reducible refine Lw.below_alloc ?_ _) | (with_reducible refine Below.drew ?_) | (with_reducible refine below_drewN ?_ _) | (with_reducible refine Below.setCell ?_ ?_ _) | go_size))⟩
theorem rdot_any (A B : Option Addr) (n m ca cb : Nat) (xs ys : List Int) (w : World) (hx : Rd .i64 w A xs) (hy : Rd .i64 w B ys) (hlx : xs.length = n) (hly : ys.length = m) (hn : n ≤ 1000) (hzx : In64 xs) (hzy : In64 ys) :
    Calls Tryz.prog 56 #[.slice A n ca, .slice B m cb] w fun e w' => e = .returned (.tuple #[.agg #[.int .i64 (dhi xs ys), .int .u64 (dlo xs ys)], .bool (dok xs ys)]) ∧ Below w.heap.size w w' := by
  by_cases h : n = m
  · subst h
    exact rdot_eq A B n ca cb xs ys w hx hy hlx hly hn hzx hzy
  · exact rdot_ne A B n m ca cb xs ys w hlx hly h
end Go.Proofs.YtkannodfamnmcaaGreat.Inn
/- What several laws of layer 11 share. Printed by wip/gen/innlaws.py. -/
namespace Go.Proofs.YtkannodfamnmcaaGreat.Inn
open Go Go.RowKit Lw Grd Lin Con Shp Sk
set_option linter.unusedVariables false
set_option linter.unusedSimpArgs false
theorem lst_int64_c : Tryz.prog.cellsOf 2 = 1 := by kernel_rfl
set_option maxRecDepth 100000 in
theorem open_list_int64 {H : Type} {enc : TypeId × Value → H} {W : World} {v : Value} {d : DataW H} {p : List MemPlace} {base : Nat} (hv : Value.okWide Tryz.prog W .any base 45 v)
    (h : DataW.Trod enc Tryz.prog W 0 (fun _ => true) true 45 v d p) :
    ∃ (A : Option Addr) (n cap : Nat) (zs : List Int), v = .slice A n cap ∧ (A = none → n = 0 ∧ cap = 0) ∧ n ≤ cap ∧ cap ≤ maxLen ∧ Rd .i64 W A zs ∧ zs.length = n ∧ (∀ v ∈ zs, -9223372036854775808 ≤ v ∧ v ≤ 9223372036854775807) := by
  obtain ⟨a0, len, cap, rfl⟩ := Go.WideShapes.okWide_slice Tryz.underlying45 hv
  obtain ⟨fuel, hf⟩ := h
  rcases Go.ChangeShapes.open_ints Tryz.underlying45 Tryz.underlying2 lst_int64_c hf with ⟨hcs, _⟩ | ⟨a, len', cap', zs, hcs, _, hl, hm, hz, _, hcell, hwz⟩
  · simp [Value.cells] at hcs
    obtain ⟨rfl, rfl, rfl⟩ := hcs
    exact ⟨none, 0, 0, [], rfl, fun _ => ⟨rfl, rfl⟩, Nat.le_refl _, by simp, rd_nil _ _ _, rfl, fun v h => by simp at h⟩
  · simp [Value.cells] at hcs
    obtain ⟨rfl, rfl, rfl⟩ := hcs
    have hz2 : zs.length = cap := by simpa using hz
    refine ⟨some a, len, cap, zs.take len, rfl, (fun h => by cases h), hl, hm, ?_, by simp; omega, ?_⟩
    · intro k v hk
      rw [List.getElem?_take] at hk
      split at hk
      · refine ⟨a, rfl, ?_⟩
        rw [hcell k (by omega)]
        simp [hk]
      · cases hk
    · intro v hv
      exact Lw.wf_i64 (hwz v (List.mem_of_mem_take hv))
theorem i64_info : (Tryz.prog.info? 2).map (fun i => (i.zero, i.size, i.bytes)) = some (some (.int .i64 0), 1, 8) := by kernel_rfl
theorem i64s_u : Tryz.prog.underlying 45 = some (.slice 2) := by kernel_rfl
theorem arr2_int_u : Tryz.prog.underlying 57 = some (.array 2 3) := by kernel_rfl
theorem arr2_int_c : Tryz.prog.cellsOf 57 = 2 := by kernel_rfl
theorem arr2_int_e : Tryz.prog.cellsOf 3 = 1 := by kernel_rfl
theorem arr2_int_k : Tryz.prog.underlying 3 = some (.int .i64) := by kernel_rfl
theorem arr2_int_l {α : Type} (T : Array α) (h : T.size = 2) : ∃ x0 x1 : α, T = #[x0, x1] := by
  obtain ⟨l⟩ := T
  match l, h with
  | [x0, x1], _ => exact ⟨x0, x1, rfl⟩
set_option maxRecDepth 100000 in
theorem open_arr2_int {H : Type} {enc : TypeId × Value → H} {W : World} {v : Value} {d : DataW H} {p : List MemPlace} {base : Nat} (hv : Value.okWide Tryz.prog W .any base 57 v)
    (h : DataW.Trod enc Tryz.prog W 0 (fun _ => true) true 57 v d p) :
    ∃ x0 x1 : Int, v = .agg #[.int .i64 x0, .int .i64 x1] ∧ (-9223372036854775808 ≤ x0 ∧ x0 ≤ 9223372036854775807) ∧ (-9223372036854775808 ≤ x1 ∧ x1 ≤ 9223372036854775807) := by
  have hcs : ∃ cs : Array Value, v = .agg cs ∧ cs.size = Tryz.prog.cellsOf 57 := by
    simp only [Value.okWide, arr2_int_u] at hv
    obtain ⟨cs, h1, h2, _⟩ := hv
    exact ⟨cs, h1, h2⟩
  obtain ⟨cs, rfl, hsz⟩ := hcs
  obtain ⟨c0, c1, rfl⟩ := arr2_int_l _ (hsz.trans arr2_int_c)
  obtain ⟨fuel, hf⟩ := h
  obtain ⟨xs, m, _, _, _, hlen, hg⟩ := DataW.trod_array arr2_int_u hf
  have g0 := hg 0 (by omega)
  have g1 := hg 1 (by omega)
  rw [arr2_int_e] at g0 g1
  match xs, hlen with
  | [y0, y1], _ =>
    simp [Value.cells] at g0 g1
    obtain ⟨x0, e0, _, w0⟩ := DataW.trod_int arr2_int_k g0
    obtain ⟨x1, e1, _, w1⟩ := DataW.trod_int arr2_int_k g1
    simp at e0 e1
    subst e0 e1
    exact ⟨x0, x1, rfl, Lw.wf_i64 w0, Lw.wf_i64 w1⟩
theorem three_boxs (w : World) (e1 e2 e3 : TypeId) (v1 v2 v3 : Array Value) : Have w (((w.alloc (.cells v1 e1)).alloc (.cells v2 e2)).alloc (.cells v3 e3)) [boxT (w.heap.size + 1 + 1) e3 v3, boxT (w.heap.size + 1) e2 v2, boxT w.heap.size e1 v1] := by
  refine (two_boxs w e1 e2 v1 v2).push (boxT (w.heap.size + 1 + 1) e3 v3) (Lw.below_alloc (Below.refl _ _) _) ?_ (fun k hk => ?_)
  · have h := heap_alloc_new ((w.alloc (.cells v1 e1)).alloc (.cells v2 e2)) (.cells v3 e3)
    rw [World.size_alloc, World.size_alloc] at h
    exact h
  · rw [World.size_alloc, World.size_alloc]
    exact Nat.le_of_eq hk.symm
theorem dsum_zero (n : Nat) : ∀ xs : List Int, dsum xs (List.replicate n 0) = 0 := by
  induction n with
  | zero => intro xs; rw [List.replicate_zero, dsum_r]
  | succ n ih =>
    intro xs
    match xs with
    | [] => rw [dsum_l]
    | x :: xs => rw [List.replicate_succ]; simp only [dsum, ih xs]; omega
theorem dok_zero {xs : List Int} {n : Nat} (h : xs.length = n) : dok xs (List.replicate n 0) = true := by
  refine (dok_yes (by simp [h]) fun k hk => ?_).1
  unfold dp
  rw [List.take_replicate, dsum_zero]
  decide
theorem zeros_get {m n k : Nat} {r : List Int} (h : (zerosL m n)[k]? = some r) : r = List.replicate n 0 := by
  have := List.mem_of_getElem? h
  unfold zerosL at this
  exact (List.mem_replicate.1 this).2
theorem lmin_zero : ∀ (zs : List Int), (∀ z ∈ zs, z = 0) → lmin zs = 0
  | [], _ => rfl
  | x :: zs, h => by
    have h1 := lmin_mem (zs := x :: zs) (by simp)
    exact h _ h1
/-- Of a sketch that has nothing the product is 0. -/
theorem in_zero {c : Cfg} {l : Int} (hr : IsRight c) (hm : c.md = 1) {L : List (List Int)} (h : Sz (rws c) (wds c) L) : inCode c c l l L (zerosL (rws c) (wds c)) = 0 ∧ inVal c c l l L (zerosL (rws c) (wds c)) = 0 := by
  have hz := sz_zeros (rws c) (wds c)
  have ho : oks L (zerosL (rws c) (wds c)) = true := oks_yes (by rw [h.1, hz.1]) (fun k xs ys h1 h2 => by
    rw [zeros_get h2]
    exact dok_zero (h.2 xs (List.mem_of_getElem? h1)))
  have hy := in_yes (l := l) hm ho
  refine ⟨hy.1, ?_⟩
  rw [hy.2]
  refine lmin_zero _ fun z hzz => ?_
  unfold dots at hzz
  obtain ⟨x, _, y, hy2, rfl⟩ := mem_zip hzz
  unfold zerosL at hy2
  rw [(List.mem_replicate.1 hy2).2]
  exact dsum_zero _ _
end Go.Proofs.YtkannodfamnmcaaGreat.Inn
/- What an array of numbers does, in numbers. For stage 12. -/
namespace Go.Proofs.YtkannodfamnmcaaGreat.Exa
open Go Go.RowKit Lw Grd Lin Con Shp Sk
set_option linter.unusedVariables false
set_option linter.unusedSimpArgs false
/-- The number of a key; 0 where there is none. -/
def num (L : List Int) (k : Int) : Int := (L[k.toNat]?).getD 0
def exCode (md : Int) (L : List Int) (k d : Int) : Int := if (L.length : Int) ≤ k then 2 else if md = 2 ∧ d < 0 then 3 else if Wid.fit64 (num L k + d) = true then 0 else 4
def exRes (md : Int) (L : List Int) (k d : Int) : List Int := if exCode md L k d = 0 then L.set k.toNat (num L k + d) else L
theorem ex_key {md : Int} {L : List Int} {k d : Int} (h : (L.length : Int) ≤ k) : exCode md L k d = 2 ∧ exRes md L k d = L := by
  have e : exCode md L k d = 2 := if_pos h
  exact ⟨e, by unfold exRes; rw [e]; rfl⟩
theorem ex_mode {md : Int} {L : List Int} {k d : Int} (h : k < (L.length : Int)) (hm : md = 2 ∧ d < 0) : exCode md L k d = 3 ∧ exRes md L k d = L := by
  have e : exCode md L k d = 3 := by unfold exCode; rw [if_neg (by omega), if_pos hm]
  exact ⟨e, by unfold exRes; rw [e]; rfl⟩
theorem ex_yes {md : Int} {L : List Int} {k d : Int} (h : k < (L.length : Int)) (hm : ¬ (md = 2 ∧ d < 0)) (hf : Wid.fit64 (num L k + d) = true) : exCode md L k d = 0 ∧ exRes md L k d = L.set k.toNat (num L k + d) := by
  have e : exCode md L k d = 0 := by unfold exCode; rw [if_neg (by omega), if_neg hm, if_pos hf]
  exact ⟨e, by unfold exRes; rw [if_pos e]⟩
theorem ex_over {md : Int} {L : List Int} {k d : Int} (h : k < (L.length : Int)) (hm : ¬ (md = 2 ∧ d < 0)) (hf : Wid.fit64 (num L k + d) = false) : exCode md L k d = 4 ∧ exRes md L k d = L := by
  have e : exCode md L k d = 4 := by unfold exCode; rw [if_neg (by omega), if_neg hm, if_neg (by rw [hf]; decide)]
  exact ⟨e, by unfold exRes; rw [e]; rfl⟩
theorem ex_len (md : Int) (L : List Int) (k d : Int) : (exRes md L k d).length = L.length := by
  unfold exRes
  split
  · exact List.length_set
  · rfl
theorem in64_fit {z : Int} (h : Wid.fit64 z = true) : -9223372036854775808 ≤ z ∧ z ≤ 9223372036854775807 := by
  have h1 : -9223372036854775808 ≤ z ∧ z < 9223372036854775808 := of_decide_eq_true h
  omega
theorem ex_in64 {md : Int} {L : List Int} {k d : Int} (h : In64 L) : In64 (exRes md L k d) := by
  unfold exRes
  split
  · rename_i h0
    have hf : Wid.fit64 (num L k + d) = true := by
      unfold exCode at h0
      split at h0
      · cases h0
      · split at h0
        · cases h0
        · split at h0
          · assumption
          · cases h0
    have := in64_fit hf
    exact in64_set h k.toNat this.1 this.2
  · exact h
theorem ex_zero {md : Int} {L : List Int} {k d : Int} (h : exCode md L k d = 0) : k < (L.length : Int) ∧ Wid.fit64 (num L k + d) = true := by
  unfold exCode at h
  split at h
  · cases h
  · split at h
    · cases h
    · split at h
      · rename_i h1 _ h2
        exact ⟨by omega, h2⟩
      · cases h
/-! ### What each key has -/
def sums (K : Nat) (us : Ups) : List Int := (List.range K).map (fun k : Nat => hasK (k : Int) us)
theorem sums_len (K : Nat) (us : Ups) : (sums K us).length = K := by unfold sums; simp
theorem sums_get {K : Nat} {us : Ups} {k : Nat} (h : k < K) : (sums K us)[k]? = some (hasK (k : Int) us) := by
  unfold sums
  rw [List.getElem?_map, List.getElem?_range h]
  rfl
theorem sums_nil (K : Nat) : sums K [] = List.replicate K 0 := by
  apply List.ext_getElem?
  intro j
  by_cases h : j < K
  · rw [sums_get h, List.getElem?_replicate, if_pos h]
    rfl
  · rw [List.getElem?_eq_none (by rw [sums_len]; omega), List.getElem?_eq_none (by simp; omega)]
theorem has_one (k : Int) (u : Int × Int) : hasK k [u] = if u.1 = k then u.2 else 0 := by
  unfold hasK hasK
  omega
theorem sums_snoc {K : Nat} {us : Ups} {u : Int × Int} (h0 : 0 ≤ u.1) (h1 : u.1 < K) : sums K (us ++ [u]) = (sums K us).set u.1.toNat (num (sums K us) u.1 + u.2) := by
  apply List.ext_getElem?
  intro j
  rw [List.getElem?_set]
  by_cases h : j < K
  · rw [sums_get h, hasK_app, has_one]
    by_cases hj : u.1.toNat = j
    · have e : u.1 = (j : Int) := by omega
      rw [if_pos hj, if_pos (show u.1.toNat < (sums K us).length by rw [sums_len]; omega), if_pos e]
      unfold num
      rw [hj, sums_get h]
      rfl
    · rw [if_neg hj, if_neg (show ¬ u.1 = (j : Int) by omega), sums_get h, Int.add_zero]
  · rw [List.getElem?_eq_none (by rw [sums_len]; omega)]
    have h2 : ¬ u.1.toNat = j := by omega
    rw [if_neg h2, List.getElem?_eq_none (by rw [sums_len]; omega)]
theorem has_rev (k : Int) : ∀ us : Ups, hasK k us.reverse = hasK k us
  | [] => rfl
  | u :: us => by
    rw [List.reverse_cons, hasK_app, has_rev k us, has_one]
    simp only [hasK]
    omega
theorem sums_rev (K : Nat) (us : Ups) : sums K us.reverse = sums K us := by
  unfold sums
  exact List.map_congr_left fun k _ => has_rev _ us
/-- An update of small numbers is never refused. -/
theorem sums_step {md : Int} {K : Nat} {us : Ups} {u : Int × Int} (h0 : 0 ≤ u.1) (h1 : u.1 < K) (hl : us.length ≤ 60) (hb : ∀ v ∈ us ++ [u], -1099511627776 ≤ v.2 ∧ v.2 ≤ 1099511627776) (hm : md = 2 → 0 ≤ u.2) : exCode md (sums K us) u.1 u.2 = 0 ∧ exRes md (sums K us) u.1 u.2 = sums K (us ++ [u]) := by
  have hn : num (sums K us) u.1 = hasK u.1 us := by
    unfold num
    rw [sums_get (show u.1.toNat < K by omega)]
    show hasK ((u.1.toNat : Nat) : Int) us = _
    rw [Int.toNat_of_nonneg h0]
  have h2 := hasK_bd (k := u.1) (b := 1099511627776) (by omega) (us := us) (fun v hv => hb v (by simp [hv]))
  have h3 := hb u (by simp)
  have hf : Wid.fit64 (num (sums K us) u.1 + u.2) = true := by
    rw [hn]
    exact (Wid.fit64_yes (by omega) (by omega)).1
  have hy := ex_yes (md := md) (k := u.1) (d := u.2) (L := sums K us) (by rw [sums_len]; exact h1) (fun h => by have := hm h.1; omega) hf
  exact ⟨hy.1, by rw [hy.2, sums_snoc h0 h1]⟩
/-! ### A grid of one row -/
theorem set_one (L : List Int) {k : Int} (h0 : 0 ≤ k) (h1 : k < (L.length : Int)) (x : Int) : setL [L] 0 k x = [L.set k.toNat x] := by
  have hin : in2 [L] 0 k = true := by
    unfold in2
    simp
    omega
  unfold setL
  rw [if_pos hin]
  rfl
theorem at_one (L : List Int) {k : Int} (h0 : 0 ≤ k) : at2 [L] 0 k = num L k := by
  unfold at2 num
  rw [if_neg (by omega)]
  rfl
/-- Two arrays put together, with a sign. -/
def exJ (s : Int) (L M : List Int) : Int := if (rowS s L M).all Wid.fit64 = true then 0 else 4
def exM (s : Int) (L M : List Int) : List Int := if (rowS s L M).all Wid.fit64 = true then rowS s L M else L
theorem join_one (s : Int) (n : Nat) (L M : List Int) : jcode s 1 n 1 n [L] [M] = exJ s L M ∧ jres s 1 n 1 n [L] [M] = [exM s L M] := by
  have e : fitsAll (gridS s [L] [M]) = (rowS s L M).all Wid.fit64 := by
    unfold fitsAll gridS
    simp
  unfold jcode jres exJ exM
  rw [e]
  by_cases h : (rowS s L M).all Wid.fit64 = true
  · rw [if_pos ⟨rfl, rfl⟩, if_pos h, if_pos ⟨rfl, rfl, h⟩, if_pos h]
    exact ⟨rfl, rfl⟩
  · rw [if_pos ⟨rfl, rfl⟩, if_neg h, if_neg (fun g => h g.2.2), if_neg h]
    exact ⟨rfl, rfl⟩
theorem exM_len {s : Int} {L M : List Int} (h : M.length = L.length) : (exM s L M).length = L.length := by
  unfold exM
  split
  · unfold rowS
    rw [List.length_zipWith, h]
    omega
  · rfl
theorem rowS_next {s : Int} {L M : List Int} {k : Nat} {x y : Int} (hx : L[k]? = some x) (hy : M[k]? = some y) : rowS s (L.take (k + 1)) (M.take (k + 1)) = rowS s (L.take k) (M.take k) ++ [x + s * y] := by
  obtain ⟨h1, e1⟩ := List.getElem?_eq_some_iff.1 hx
  obtain ⟨h2, e2⟩ := List.getElem?_eq_some_iff.1 hy
  unfold rowS
  rw [List.take_succ_eq_append_getElem h1, List.take_succ_eq_append_getElem h2, List.zipWith_append (by simp; omega), e1, e2]
  rfl
theorem exJ_no {s : Int} {L M : List Int} {k : Nat} {x y : Int} (hx : L[k]? = some x) (hy : M[k]? = some y) (h : Wid.fit64 (x + s * y) = false) : exJ s L M = 4 ∧ exM s L M = L := by
  have hm : x + s * y ∈ rowS s L M := List.mem_of_getElem? (i := k) (by unfold rowS; rw [List.getElem?_zipWith, hx, hy])
  have hn : ¬ (rowS s L M).all Wid.fit64 = true := fun g => by
    rw [List.all_eq_true] at g
    rw [g _ hm] at h
    cases h
  exact ⟨if_neg hn, if_neg hn⟩
theorem exJ_yes {s : Int} {L M : List Int} (h : ∀ (k : Nat) x y, L[k]? = some x → M[k]? = some y → Wid.fit64 (x + s * y) = true) : exJ s L M = 0 ∧ exM s L M = rowS s L M := by
  have hn : (rowS s L M).all Wid.fit64 = true := by
    rw [List.all_eq_true]
    intro z hz
    obtain ⟨k, hk⟩ := List.getElem?_of_mem hz
    unfold rowS at hk
    rw [List.getElem?_zipWith] at hk
    split at hk
    · rename_i x y h1 h2
      injection hk with hk
      rw [← hk]
      exact h k x y h1 h2
    · cases hk
  exact ⟨if_pos hn, if_pos hn⟩
end Go.Proofs.YtkannodfamnmcaaGreat.Exa
