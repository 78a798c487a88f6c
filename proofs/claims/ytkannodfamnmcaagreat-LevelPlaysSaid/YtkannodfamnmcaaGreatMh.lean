/- Texts that the statements of this seat lean on, put together: SkCode, SkLawA. -/
import Derived.Test.YtkannodfamnmcaaGreatMa
import Derived.Test.YtkannodfamnmcaaGreatMd
import Derived.Test.YtkannodfamnmcaaGreatMe
import Derived.Test.YtkannodfamnmcaaGreatMf
import Derived.Test.YtkannodfamnmcaaGreatMg
import Derived.Laws.EntriesVeiled
import Derived.Deep.LoopGhost
import Derived.Deep.RegionHeld3
import Derived.Deep.DeepCutAuto
import Derived.Deep.QuietTactic
import Derived.BigQuiet
/- The walks of package sketch (the code's): a sketch is a block of its grid, its config and its level. Printed by wip/gen/skcode.py. -/
namespace Go.Proofs.YtkannodfamnmcaaGreat.Sk
open Go Go.RowKit Lw Grd Lin Con Shp
set_option linter.unusedVariables false
set_option linter.unusedSimpArgs false
/-- A sketch of the code at p, in the blocks F. -/
def SK (w : World) (p : Addr) (F : Nat → Prop) (c : Cfg) (l : Int) (L : List (List Int)) : Prop :=
  IsRight c ∧ c.Ok ∧ 0 ≤ l ∧ l ≤ c.bt ∧ ∃ (b : Nat) (gp : Addr) (G : Nat → Prop), p = ⟨b, 0, none⟩ ∧ w.heap[b]? = some (.cells #[.pointer (some gp), .int .i64 c.bt, .int .i64 c.rw, .int .i64 c.wd, .int .i64 c.md, .int .u64 c.sd, .int .i64 l] 119 (0, 0)) ∧ PG w gp G (rws c) (wds c) L ∧ ¬ G b ∧ F = (fun k => k = b ∨ G k)
theorem SK.dims {w : World} {p : Addr} {F : Nat → Prop} {c : Cfg} {l : Int} {L : List (List Int)} (h : SK w p F c l L) : Dims (rws c) (wds c) L := by
  obtain ⟨_, _, _, _, b, gp, G, _, _, h, _⟩ := h
  exact h.dims
theorem SK.right {w : World} {p : Addr} {F : Nat → Prop} {c : Cfg} {l : Int} {L : List (List Int)} (h : SK w p F c l L) : IsRight c ∧ 0 ≤ l ∧ l ≤ c.bt := ⟨h.1, h.2.2.1, h.2.2.2.1⟩
theorem SK.ok {w : World} {p : Addr} {F : Nat → Prop} {c : Cfg} {l : Int} {L : List (List Int)} (h : SK w p F c l L) : c.Ok := h.2.1
theorem SK.keep {w' : World} {H : Nat → Prop} {w : World} {p : Addr} {F : Nat → Prop} {c : Cfg} {l : Int} {L : List (List Int)} (h : SK w p F c l L) (hk : Kept H w w') (hf : ∀ k, F k → ¬ H k) : SK w' p F c l L := by
  obtain ⟨hr, hok, hl0, hl1, b, gp, G, rfl, hb, hg, hGb, rfl⟩ := h
  exact ⟨hr, hok, hl0, hl1, b, gp, G, rfl, hk.heap hb (hf b (.inl rfl)), (pgT gp G _ _ L).keep w w' H hg hk (fun k h => hf k (.inr h)), hGb, rfl⟩
theorem SK.up {w' : World} {w : World} {p : Addr} {F : Nat → Prop} {c : Cfg} {l : Int} {L : List (List Int)} (h : SK w p F c l L) (hk : Below w.heap.size w w') : SK w' p F c l L := h.keep (Kept.of_below (F := fun _ => False) hk) (fun _ _ h => h)
theorem SK.lt {w : World} {p : Addr} {F : Nat → Prop} {c : Cfg} {l : Int} {L : List (List Int)} (h : SK w p F c l L) (k : Nat) (hk : F k) : k < w.heap.size := by
  obtain ⟨hr, hok, hl0, hl1, b, gp, G, rfl, hb, hg, hGb, rfl⟩ := h
  rcases hk with rfl | hk
  · exact size_of_heap hb
  · exact (pgT gp G _ _ L).lt w hg k hk
def skT (p : Addr) (F : Nat → Prop) (c : Cfg) (l : Int) (L : List (List Int)) : Thing where
  I := fun w => SK w p F c l L
  F := F
  keep := fun w w' H h hk hf => h.keep hk hf
  lt := fun w h k hk => h.lt k hk
theorem cl_of {n : Int} {m : Nat} (h0 : 0 ≤ n) (h1 : n ≤ m) : cl n m = n.toNat := by unfold cl; omega
theorem sk_turn {w w' : World} {b : Nat} {gp : Addr} {G G' : Nat → Prop} {c : Cfg} {l : Int} {L : List (List Int)} (hr : IsRight c) (hok : c.Ok) (hl0 : 0 ≤ l) (hl1 : l ≤ c.bt)
    (hb : w.heap[b]? = some (.cells #[.pointer (some gp), .int .i64 c.bt, .int .i64 c.rw, .int .i64 c.wd, .int .i64 c.md, .int .u64 c.sd, .int .i64 l] 119 (0, 0))) (hGb : ¬ G b) (g' : PG w' gp G' (rws c) (wds c) L) (hk : Kept G w w') (hG : ∀ k, G' k → G k ∨ w.heap.size ≤ k) :
    ∃ F', SK w' ⟨b, 0, none⟩ F' c l L ∧ Kept (fun k => k = b ∨ G k) w w' ∧ (∀ q, F' q → (q = b ∨ G q) ∨ w.heap.size ≤ q) := by
  have hbl := size_of_heap hb
  refine ⟨_, ⟨hr, hok, hl0, hl1, b, gp, G', rfl, hk.heap hb hGb, g', fun h => ?_, rfl⟩, hk.mono (fun k _ h => .inr h), fun q hq => ?_⟩
  · rcases hG b h with h1 | h1
    · exact hGb h1
    · omega
  · rcases hq with rfl | h1
    · exact .inl (.inl rfl)
    · rcases hG q h1 with h2 | h2
      · exact .inl (.inr h2)
      · exact .inr h2
theorem slevel_any (p : Addr) (F : Nat → Prop) (c : Cfg) (l : Int) (L : List (List Int)) (w : World) (h : SK w p F c l L) :
    Calls Tryz.prog 110 #[.pointer (some p)] w fun e w' => e = .returned (.int .i64 l) ∧ Below w.heap.size w w' := by
  obtain ⟨hr, hok, hl0, hl1, b, gp, G, rfl, hb, hg, hGb, rfl⟩ := h
  have c6 := grd_cell hb 6 (v := .int .i64 l) rfl
  clear hb hg
  go_enter Tryz.func110, Tryz.ntmps110
  go_wp2
  go_ret
  exact ⟨rfl, Below.refl _ _⟩
set_option maxRecDepth 100000 in
theorem sconfig_any (p : Addr) (F : Nat → Prop) (c : Cfg) (l : Int) (L : List (List Int)) (w : World) (h : SK w p F c l L) :
    Calls Tryz.prog 80 #[.pointer (some p)] w fun e w' => e = .returned (.agg #[.int .i64 c.bt, .int .i64 c.rw, .int .i64 c.wd, .int .i64 c.md, .int .u64 c.sd]) ∧ Below w.heap.size w w' := by
  obtain ⟨hr, hok, hl0, hl1, b, gp, G, rfl, hb, hg, hGb, rfl⟩ := h
  have hbl := size_of_heap hb
  have c1 := grd_cell hb 1 (v := .int .i64 c.bt) rfl
  have c2 := grd_cell hb 2 (v := .int .i64 c.rw) rfl
  have c3 := grd_cell hb 3 (v := .int .i64 c.wd) rfl
  have c4 := grd_cell hb 4 (v := .int .i64 c.md) rfl
  have c5 := grd_cell hb 5 (v := .int .u64 c.sd) rfl
  clear hb hg
  go_enter Tryz.func80, Tryz.ntmps80
  go_wp2
  go_returns
  exact ⟨rfl, by (repeat' (first | (with_reducible exact Below.refl _ _) | (with_reducible assumption) | (with_reducible refine below_over ?_ _ _) | (with_reducible refine Lw.below_alloc ?_ _) | (with_reducible refine Below.drew ?_) | (with_reducible refine below_drewN ?_ _) | (with_reducible refine Below.setCell ?_ ?_ _) | go_size))⟩
theorem scells_mid (p : Addr) (F : Nat → Prop) (c : Cfg) (l : Int) (L : List (List Int)) (w : World) (h : SK w p F c l L) :
    Calls Tryz.prog 81 #[.pointer (some p)] w fun e w' => ∃ (g cap : Nat), e = .returned (.slice (some ⟨g, 0, none⟩) (rws c * wds c) cap) ∧ Ord.Mid w' g 0 L.flatten ∧ w.heap.size ≤ g ∧ rws c * wds c ≤ cap ∧ cap ≤ maxLen ∧ Below w.heap.size w w' := by
  obtain ⟨hr, hok, hl0, hl1, b, gp, G, rfl, hb, hg, hGb, rfl⟩ := h
  have c0 := grd_cell hb 0 (v := .pointer (some gp)) rfl
  have C := Lib.hid (cells_mid gp G _ _ L w hg)
  clear hb hg
  go_enter Tryz.func81, Tryz.ntmps81
  go_wp2_with (go_at_call 109; (with_reducible refine C.out.mono ?_); rintro e w' ⟨A, cap, rfl, h1, h2, h3, h4, h5⟩)
  go_ret
  exact ⟨A, cap, rfl, h1, h2, h3, h4, h5⟩
theorem scells_any (p : Addr) (F : Nat → Prop) (c : Cfg) (l : Int) (L : List (List Int)) (w : World) (h : SK w p F c l L) :
    Calls Tryz.prog 81 #[.pointer (some p)] w fun e w' => ∃ (A : Option Addr) (cap : Nat), e = .returned (.slice A (rws c * wds c) cap) ∧ Row1 w' A L.flatten ∧ rws c * wds c ≤ cap ∧ cap ≤ maxLen ∧ (∀ a, A = some a → w.heap.size ≤ a.block) ∧ Below w.heap.size w w' :=
  (scells_mid p F c l L w h).mono fun e w' ⟨g, cap, e1, hm, hg, h1, h2, hb⟩ => ⟨some ⟨g, 0, none⟩, cap, e1, mid_row hm, h1, h2, fun a ha => by injection ha with ha; subst ha; exact hg, hb⟩
set_option maxRecDepth 100000 in
theorem way_lin (p : Addr) (F : Nat → Prop) (c : Cfg) (l : Int) (L : List (List Int)) (w : World) (h : SK w p F c l L) (hm : c.md = 1) :
    Calls Tryz.prog 75 #[.pointer (some p)] w fun e w' => e = .returned (.agg #[.func (.func 107) #[] #[], .func (.func 105) #[] #[], .bool true]) ∧ Below w.heap.size w w' := by
  obtain ⟨hr, hok, hl0, hl1, b, gp, G, rfl, hb, hg, hGb, rfl⟩ := h
  have hbl := size_of_heap hb
  have c4 := grd_cell hb 4 (v := .int .i64 c.md) rfl
  rw [hm] at c4
  clear hb hg hm
  go_enter Tryz.func75, Tryz.ntmps75
  go_wp2
  go_returns
  exact ⟨rfl, by (repeat' (first | (with_reducible exact Below.refl _ _) | (with_reducible assumption) | (with_reducible refine below_over ?_ _ _) | (with_reducible refine Lw.below_alloc ?_ _) | (with_reducible refine Below.drew ?_) | (with_reducible refine below_drewN ?_ _) | (with_reducible refine Below.setCell ?_ ?_ _) | go_size))⟩
set_option maxRecDepth 100000 in
theorem way_con (p : Addr) (F : Nat → Prop) (c : Cfg) (l : Int) (L : List (List Int)) (w : World) (h : SK w p F c l L) (hm : c.md = 2) :
    Calls Tryz.prog 75 #[.pointer (some p)] w fun e w' => e = .returned (.agg #[.func (.func 104) #[] #[], .func (.func 105) #[] #[], .bool false]) ∧ Below w.heap.size w w' := by
  obtain ⟨hr, hok, hl0, hl1, b, gp, G, rfl, hb, hg, hGb, rfl⟩ := h
  have hbl := size_of_heap hb
  have c4 := grd_cell hb 4 (v := .int .i64 c.md) rfl
  rw [hm] at c4
  clear hb hg hm
  go_enter Tryz.func75, Tryz.ntmps75
  go_wp2
  go_returns
  exact ⟨rfl, by (repeat' (first | (with_reducible exact Below.refl _ _) | (with_reducible assumption) | (with_reducible refine below_over ?_ _ _) | (with_reducible refine Lw.below_alloc ?_ _) | (with_reducible refine Below.drew ?_) | (with_reducible refine below_drewN ?_ _) | (with_reducible refine Below.setCell ?_ ?_ _) | go_size))⟩
set_option maxRecDepth 100000 in
theorem way_med (p : Addr) (F : Nat → Prop) (c : Cfg) (l : Int) (L : List (List Int)) (w : World) (h : SK w p F c l L) (hm : c.md = 3) :
    Calls Tryz.prog 75 #[.pointer (some p)] w fun e w' => e = .returned (.agg #[.func (.func 107) #[] #[], .func (.func 106) #[] #[], .bool true]) ∧ Below w.heap.size w w' := by
  obtain ⟨hr, hok, hl0, hl1, b, gp, G, rfl, hb, hg, hGb, rfl⟩ := h
  have hbl := size_of_heap hb
  have c4 := grd_cell hb 4 (v := .int .i64 c.md) rfl
  rw [hm] at c4
  clear hb hg hm
  go_enter Tryz.func75, Tryz.ntmps75
  go_wp2
  go_returns
  exact ⟨rfl, by (repeat' (first | (with_reducible exact Below.refl _ _) | (with_reducible assumption) | (with_reducible refine below_over ?_ _ _) | (with_reducible refine Lw.below_alloc ?_ _) | (with_reducible refine Below.drew ?_) | (with_reducible refine below_drewN ?_ _) | (with_reducible refine Below.setCell ?_ ?_ _) | go_size))⟩
set_option maxRecDepth 100000 in
set_option maxHeartbeats 4000000 in
theorem scolumns_yes (p : Addr) (F : Nat → Prop) (c : Cfg) (l : Int) (L : List (List Int)) (k : Int) (w : World) (h : SK w p F c l L) (k0 : 0 ≤ k) (k1 : k ≤ 18446744073709551615) (hk : k < keys c l) :
    Calls Tryz.prog 167 #[.pointer (some p), .int .u64 k] w fun e w' => ∃ g, e = .returned (.tuple #[.slice (some ⟨g, 0, none⟩) (rws c) (rws c), .int .i64 0]) ∧ Ord.Mid w' g 0 (cols c l k) ∧ w.heap.size ≤ g ∧ Below w.heap.size w w' := by
  obtain ⟨hr, hok, hl0, hl1, b, gp, G, rfl, hb, hg, hGb, rfl⟩ := h
  have hbl := size_of_heap hb
  have c1 := grd_cell hb 1 (v := .int .i64 c.bt) rfl
  have c2 := grd_cell hb 2 (v := .int .i64 c.rw) rfl
  have c3 := grd_cell hb 3 (v := .int .i64 c.wd) rfl
  have c4 := grd_cell hb 4 (v := .int .i64 c.md) rfl
  have c5 := grd_cell hb 5 (v := .int .u64 c.sd) rfl
  have c6 := grd_cell hb 6 (v := .int .i64 l) rfl
  have hrw := rws_bd hr
  have C := Lib.hid (fun w => columns_new c l k (rws c) w hok (by omega) (by have := hr.2.1; omega) k0 k1 hk hrw.2.2.symm hrw.2.1)
  have HCO : Hid ((List.range (rws c)).map (col c l k) = cols c l k) := Lib.hid (if_pos hk).symm
  obtain ⟨n, hn⟩ : ∃ n, rws c = n := ⟨_, rfl⟩
  rw [hn] at C hrw HCO ⊢
  have hn0 : 1 ≤ n := hrw.1
  clear hrw hn hk
  clear hb hg
  go_enter Tryz.func167, Tryz.ntmps167
  go_wp2
  go_region_held3 (fun w' => w'.cell? ⟨b, 1, none⟩ = some (.int .i64 c.bt) ∧ w'.cell? ⟨b, 2, none⟩ = some (.int .i64 c.rw) ∧ w'.cell? ⟨b, 3, none⟩ = some (.int .i64 c.wd) ∧ w'.cell? ⟨b, 4, none⟩ = some (.int .i64 c.md) ∧ w'.cell? ⟨b, 5, none⟩ = some (.int .u64 c.sd) ∧ w'.cell? ⟨b, 6, none⟩ = some (.int .i64 l)) (first | (refine ⟨?_, ?_, ?_, ?_, ?_, ?_⟩ <;> (first | (with_reducible assumption) | (with_reducible refine cell_up c1 ?_) | (with_reducible refine cell_up c2 ?_) | (with_reducible refine cell_up c3 ?_) | (with_reducible refine cell_up c4 ?_) | (with_reducible refine cell_up c5 ?_) | (with_reducible refine cell_up c6 ?_)) <;> (repeat' (first | (with_reducible exact Below.refl _ _) | (with_reducible assumption) | (with_reducible refine below_over ?_ _ _) | (with_reducible refine Lw.below_alloc ?_ _) | (with_reducible refine Below.drew ?_) | (with_reducible refine below_drewN ?_ _) | (with_reducible refine Below.setCell ?_ ?_ _) | go_size)))) (first
    | (go_at_call 168; (with_reducible refine (C.out _).mono ?_); rintro e w' ⟨g, rfl, hm, hg, hb2⟩; obtain ⟨bs, d, rfl⟩ := below_grow hb2; have HM := Lib.hid hm; clear hm hb2))
  all_goals go_wp2
  all_goals go_ret2
  all_goals exact ⟨g, rfl, HCO.out ▸ HM.out, hg, by (repeat' (first | (with_reducible exact Below.refl _ _) | (with_reducible assumption) | (with_reducible refine below_over ?_ _ _) | (with_reducible refine Lw.below_alloc ?_ _) | (with_reducible refine Below.drew ?_) | (with_reducible refine below_drewN ?_ _) | (with_reducible refine Below.setCell ?_ ?_ _) | go_size))⟩
set_option maxRecDepth 100000 in
set_option maxHeartbeats 4000000 in
theorem scolumns_no (p : Addr) (F : Nat → Prop) (c : Cfg) (l : Int) (L : List (List Int)) (k : Int) (w : World) (h : SK w p F c l L) (k0 : 0 ≤ k) (k1 : k ≤ 18446744073709551615) (hk : keys c l ≤ k) :
    Calls Tryz.prog 167 #[.pointer (some p), .int .u64 k] w fun e w' => e = .returned (.tuple #[.slice none 0 0, .int .i64 2]) ∧ Below w.heap.size w w' := by
  obtain ⟨hr, hok, hl0, hl1, b, gp, G, rfl, hb, hg, hGb, rfl⟩ := h
  have hbl := size_of_heap hb
  have c1 := grd_cell hb 1 (v := .int .i64 c.bt) rfl
  have c2 := grd_cell hb 2 (v := .int .i64 c.rw) rfl
  have c3 := grd_cell hb 3 (v := .int .i64 c.wd) rfl
  have c4 := grd_cell hb 4 (v := .int .i64 c.md) rfl
  have c5 := grd_cell hb 5 (v := .int .u64 c.sd) rfl
  have c6 := grd_cell hb 6 (v := .int .i64 l) rfl
  have C := Lib.hid (fun w => columns_no c l k w hok (by omega) (by have := hr.2.1; omega) hk)
  clear hk
  clear hb hg
  go_enter Tryz.func167, Tryz.ntmps167
  go_wp2
  go_region_held3 (fun w' => w'.cell? ⟨b, 1, none⟩ = some (.int .i64 c.bt) ∧ w'.cell? ⟨b, 2, none⟩ = some (.int .i64 c.rw) ∧ w'.cell? ⟨b, 3, none⟩ = some (.int .i64 c.wd) ∧ w'.cell? ⟨b, 4, none⟩ = some (.int .i64 c.md) ∧ w'.cell? ⟨b, 5, none⟩ = some (.int .u64 c.sd) ∧ w'.cell? ⟨b, 6, none⟩ = some (.int .i64 l)) (first | (refine ⟨?_, ?_, ?_, ?_, ?_, ?_⟩ <;> (first | (with_reducible assumption) | (with_reducible refine cell_up c1 ?_) | (with_reducible refine cell_up c2 ?_) | (with_reducible refine cell_up c3 ?_) | (with_reducible refine cell_up c4 ?_) | (with_reducible refine cell_up c5 ?_) | (with_reducible refine cell_up c6 ?_)) <;> (repeat' (first | (with_reducible exact Below.refl _ _) | (with_reducible assumption) | (with_reducible refine below_over ?_ _ _) | (with_reducible refine Lw.below_alloc ?_ _) | (with_reducible refine Below.drew ?_) | (with_reducible refine below_drewN ?_ _) | (with_reducible refine Below.setCell ?_ ?_ _) | go_size)))) (first
    | (go_at_call 168; (with_reducible refine (C.out _).mono ?_); rintro e w' ⟨rfl, hb2⟩; obtain ⟨bs, d, rfl⟩ := below_grow hb2; clear hb2))
  all_goals go_wp2
  all_goals go_ret2
  all_goals exact ⟨rfl, by (repeat' (first | (with_reducible exact Below.refl _ _) | (with_reducible assumption) | (with_reducible refine below_over ?_ _ _) | (with_reducible refine Lw.below_alloc ?_ _) | (with_reducible refine Below.drew ?_) | (with_reducible refine below_drewN ?_ _) | (with_reducible refine Below.setCell ?_ ?_ _) | go_size))⟩
set_option maxRecDepth 100000 in
set_option maxHeartbeats 4000000 in
theorem snew_no (c : Cfg) (l : Int) (w : World) (h : c.Ok) (l0 : -9223372036854775808 ≤ l) (l1 : l ≤ 9223372036854775807) (hk : keys c l = 0) :
    Calls Tryz.prog 31 #[.agg #[.int .i64 c.bt, .int .i64 c.rw, .int .i64 c.wd, .int .i64 c.md, .int .u64 c.sd], .int .i64 l] w fun e w' => e = .returned (.tuple #[.pointer none, .int .i64 1]) ∧ Below w.heap.size w w' := by
  have C := Lib.hid (fun w => keys_any c l w h l0 l1)
  rw [hk] at C
  clear hk
  go_enter Tryz.func31, Tryz.ntmps31
  go_wp2_with (go_at_call 28; (with_reducible refine (C.out _).mono ?_); rintro e w' ⟨rfl, hb⟩; obtain ⟨bs, d, rfl⟩ := below_grow hb; clear hb)
  go_ret2
  exact ⟨rfl, by (repeat' (first | (with_reducible exact Below.refl _ _) | (with_reducible assumption) | (with_reducible refine below_over ?_ _ _) | (with_reducible refine Lw.below_alloc ?_ _) | (with_reducible refine Below.drew ?_) | (with_reducible refine below_drewN ?_ _) | (with_reducible refine Below.setCell ?_ ?_ _) | go_size))⟩
set_option maxRecDepth 100000 in
set_option maxHeartbeats 4000000 in
theorem snew_yes (c : Cfg) (l : Int) (w : World) (h : c.Ok) (l0 : -9223372036854775808 ≤ l) (l1 : l ≤ 9223372036854775807) (hk : 1 ≤ keys c l) :
    Calls Tryz.prog 31 #[.agg #[.int .i64 c.bt, .int .i64 c.rw, .int .i64 c.wd, .int .i64 c.md, .int .u64 c.sd], .int .i64 l] w fun e w' => ∃ (p : Addr) (F : Nat → Prop), e = .returned (.tuple #[.pointer (some p), .int .i64 0]) ∧ SK w' p F c l (zerosL (rws c) (wds c)) ∧ (∀ k, F k → w.heap.size ≤ k) ∧ Below w.heap.size w w' := by
  have hr := keys_pos.1 hk
  have hw1 := rws_bd hr.1
  have hw2 := wds_bd hr.1
  have C := Lib.hid (fun w => keys_any c l w h l0 l1)
  have N := Lib.hid (fun w => new_any c.rw c.wd w h.r0 h.r1 h.w0 h.w1)
  have e1 : cl c.rw 8 = rws c := cl_of (by omega) (by omega)
  have e2 : cl c.wd 128 = wds c := cl_of (by omega) (by omega)
  rw [e1, e2] at N
  obtain ⟨K, hK⟩ : ∃ K, keys c l = K := ⟨_, rfl⟩
  rw [hK] at C hk
  have HR := Lib.hid hr
  clear hr hw1 hw2 e1 e2 hK
  go_enter Tryz.func31, Tryz.ntmps31
  go_wp2_with (go_at_call 28; (with_reducible refine (C.out _).mono ?_); rintro e w' ⟨rfl, hb⟩; obtain ⟨bs, d, rfl⟩ := below_grow hb; clear hb)
  obtain ⟨w1, hw1⟩ : ∃ w1, w1 = grow (w.alloc (.cells #[.int .i64 c.bt, .int .i64 c.rw, .int .i64 c.wd, .int .i64 c.md, .int .u64 c.sd] 24)) bs d := ⟨_, rfl⟩
  have HB1 : Hid (Below w.heap.size w w1) := Lib.hid (by rw [hw1]; (repeat' (first | (with_reducible exact Below.refl _ _) | (with_reducible assumption) | (with_reducible refine below_over ?_ _ _) | (with_reducible refine Lw.below_alloc ?_ _) | (with_reducible refine Below.drew ?_) | (with_reducible refine below_drewN ?_ _) | (with_reducible refine Below.setCell ?_ ?_ _) | go_size)))
  have x0 : w1.cell? ⟨w.heap.size, 0, none⟩ = some (.int .i64 c.bt) := by rw [hw1]; simp [go_sem]
  have x1 : w1.cell? ⟨w.heap.size, 1, none⟩ = some (.int .i64 c.rw) := by rw [hw1]; simp [go_sem]
  have x2 : w1.cell? ⟨w.heap.size, 2, none⟩ = some (.int .i64 c.wd) := by rw [hw1]; simp [go_sem]
  have x3 : w1.cell? ⟨w.heap.size, 3, none⟩ = some (.int .i64 c.md) := by rw [hw1]; simp [go_sem]
  have x4 : w1.cell? ⟨w.heap.size, 4, none⟩ = some (.int .u64 c.sd) := by rw [hw1]; simp [go_sem]
  rw [← hw1]
  clear hw1
  go_region_held3 (fun w' => w'.cell? ⟨w.heap.size, 0, none⟩ = some (.int .i64 c.bt) ∧ w'.cell? ⟨w.heap.size, 1, none⟩ = some (.int .i64 c.rw) ∧ w'.cell? ⟨w.heap.size, 2, none⟩ = some (.int .i64 c.wd) ∧ w'.cell? ⟨w.heap.size, 3, none⟩ = some (.int .i64 c.md) ∧ w'.cell? ⟨w.heap.size, 4, none⟩ = some (.int .u64 c.sd)) (first | (refine ⟨?_, ?_, ?_, ?_, ?_⟩ <;> (first | (with_reducible assumption) | (with_reducible refine cell_up x0 ?_) | (with_reducible refine cell_up x1 ?_) | (with_reducible refine cell_up x2 ?_) | (with_reducible refine cell_up x3 ?_) | (with_reducible refine cell_up x4 ?_)) <;> (repeat' (first | (with_reducible exact Below.refl _ _) | (with_reducible assumption) | (with_reducible refine below_over ?_ _ _) | (with_reducible refine Lw.below_alloc ?_ _) | (with_reducible refine Below.drew ?_) | (with_reducible refine below_drewN ?_ _) | (with_reducible refine Below.setCell ?_ ?_ _) | go_size)))) (first
    | (go_at_call 58; (with_reducible refine (N.out _).mono ?_); rintro e w2 ⟨gp, G, rfl, hg, hG, hb2⟩; obtain ⟨bs2, d2, rfl⟩ := below_grow hb2; have HG := Lib.hid hg; have HF := Lib.hid hG; have HB2 := Lib.hid hb2; clear hg hG hb2))
  all_goals go_wp2
  all_goals go_ret2
  have hgl := fun k (hk : G k) => (pgT gp G _ _ _).lt _ HG.out k hk
  rw [size_grow] at hgl
  have hn := heap_alloc_new (grow w1 bs2 d2) (.cells #[.pointer (some gp), .int .i64 c.bt, .int .i64 c.rw, .int .i64 c.wd, .int .i64 c.md, .int .u64 c.sd, .int .i64 l] 119)
  rw [size_grow] at hn
  have hs := HB1.out.size
  have hz : w1.drew.heap.size = w1.heap.size := rfl
  rw [hz] at hgl
  refine ⟨⟨w1.heap.size + bs2.size, 0, none⟩, fun k => k = w1.heap.size + bs2.size ∨ G k, rfl, ⟨HR.out.1, h, HR.out.2.1, HR.out.2.2, _, gp, G, rfl, hn, pg_alloc HG.out _, fun hk => by have := hgl _ hk; omega, rfl⟩, fun k hk => ?_, ?_⟩
  · rcases hk with rfl | hk
    · omega
    · have := HF.out k hk; rw [hz] at this; omega
  · exact (below_call (Below.drew HB1.out) HB2.out (Nat.le_refl _)).alloc (by rw [size_grow]; omega) _
set_option maxRecDepth 100000 in
set_option maxHeartbeats 4000000 in
theorem spoint_no (p : Addr) (F : Nat → Prop) (c : Cfg) (l : Int) (L : List (List Int)) (k : Int) (w : World) (h : SK w p F c l L) (k0 : 0 ≤ k) (k1 : k ≤ 18446744073709551615) (hk : keys c l ≤ k) :
    Calls Tryz.prog 165 #[.pointer (some p), .int .u64 k] w fun e w' => e = .returned (.tuple #[.int .i64 0, .int .i64 2]) ∧ Below w.heap.size w w' := by
  have CN := Lib.hid (scolumns_no p F c l L k w h k0 k1 hk)
  clear h
  go_enter Tryz.func165, Tryz.ntmps165
  go_wp2_with (go_at_call 167; (with_reducible refine CN.out.mono ?_); rintro e w1 ⟨rfl, hb1⟩; have HB1 := Lib.hid hb1; clear hb1)
  go_ret2
  exact ⟨rfl, HB1.out⟩
set_option maxRecDepth 100000 in
set_option maxHeartbeats 4000000 in
theorem supd_no (p : Addr) (F : Nat → Prop) (c : Cfg) (l : Int) (L : List (List Int)) (k : Int) (w : World) (h : SK w p F c l L) (k0 : 0 ≤ k) (k1 : k ≤ 18446744073709551615) (d : Int) (d0 : -9223372036854775808 ≤ d) (d1 : d ≤ 9223372036854775807) (hk : keys c l ≤ k) :
    Calls Tryz.prog 166 #[.pointer (some p), .int .u64 k, .int .i64 d] w fun e w' => e = .returned (.int .i64 2) ∧ Below w.heap.size w w' := by
  have CN := Lib.hid (scolumns_no p F c l L k w h k0 k1 hk)
  clear h
  go_enter Tryz.func166, Tryz.ntmps166
  go_wp2_with (go_at_call 167; (with_reducible refine CN.out.mono ?_); rintro e w1 ⟨rfl, hb1⟩; have HB1 := Lib.hid hb1; clear hb1)
  go_ret
  exact ⟨rfl, HB1.out⟩
theorem middle_yes (p : Addr) (F : Nat → Prop) (m n : Nat) (L : List (List Int)) (A : Option Addr) (N cap : Nat) (cols : List Int) (w : World) (h : PG w p F m n L) (hc : Rd .i64 w A cols) (hl : cols.length = N) (hN : N ≤ 1000) (hz : In64 cols) (hm : Meets m n cols) :
    Calls Tryz.prog 106 #[.pointer (some p), .slice A N cap] w fun e w' => e = .returned (.tuple #[.int .i64 (Ord.kv (named L cols) ((((named L cols).length : Int) - 1) / 2)), .int .i64 0]) ∧ Below w.heap.size w w' := by
  have C := middle_any p F m n L A N cap cols w h hc hl hN hz
  rw [(readOf_yes (L := L) hm).1, (readOf_yes (L := L) hm).2] at C
  exact C
theorem in64_cols (c : Cfg) (l k : Int) : In64 (cols c l k) := fun v hv => cols_in c l k v hv
set_option maxRecDepth 100000 in
set_option maxHeartbeats 4000000 in
theorem spoint_lin (p : Addr) (F : Nat → Prop) (c : Cfg) (l : Int) (L : List (List Int)) (k : Int) (w : World) (h : SK w p F c l L) (k0 : 0 ≤ k) (k1 : k ≤ 18446744073709551615) (hk : k < keys c l) (hm : c.md = 1) :
    Calls Tryz.prog 165 #[.pointer (some p), .int .u64 k] w fun e w' => e = .returned (.tuple #[.int .i64 (lea L (cols c l k)), .int .i64 0]) ∧ Below w.heap.size w w' := by
  have HS := Lib.hid h
  obtain ⟨hr, hok, hl0, hl1, b, gp, G, rfl, hb, hg, hGb, rfl⟩ := h
  have hbl := size_of_heap hb
  have c0w := grd_cell hb 0 (v := .pointer (some gp)) rfl
  have CY := Lib.hid (scolumns_yes _ _ c l L k w HS.out k0 k1 hk)
  have WY : Hid (∀ w', Below w.heap.size w w' → Calls Tryz.prog 75 #[.pointer (some ⟨b, 0, none⟩)] w' fun e w2 => e = .returned (.agg #[.func (.func 107) #[] #[], .func (.func 105) #[] #[], .bool true]) ∧ Below w'.heap.size w' w2) := Lib.hid (fun w' hb2 => way_lin _ _ c l L w' (HS.out.up hb2) hm)
  have hcl : (cols c l k).length = rws c := (cols_meet k0 hk).2.1
  have hrw := rws_bd hr
  have TL : Hid (∀ w' g, Below w.heap.size w w' → Ord.Mid w' g 0 (cols c l k) → Calls Tryz.prog 105 #[.pointer (some gp), .slice (some ⟨g, 0, none⟩) (rws c) (rws c)] w' fun e w2 => e = .returned (.tuple #[.int .i64 (lea L (cols c l k)), .int .i64 0]) ∧ Below w'.heap.size w' w2) := Lib.hid (fun w' g hb2 hmid => least_yes gp G _ _ L _ _ _ _ w' (pg_up hg hb2) hmid.rd hcl (by omega) (in64_cols c l k) (cols_meet k0 hk))
  obtain ⟨n, hn⟩ : ∃ n, rws c = n := ⟨_, rfl⟩
  obtain ⟨V, hV⟩ : ∃ V, lea L (cols c l k) = V := ⟨_, rfl⟩
  rw [hV] at TL ⊢
  rw [hn] at CY TL
  have hfd : ∀ w : World, (Instr.field 142 (.agg #[.func (.func 107) #[] #[], .func (.func 105) #[] #[], .bool true]) 1).run Tryz.prog w = .ok (.func (.func 105) #[] #[]) w := fun _ => by kernel_rfl
  clear hb hg hcl hrw hn hV hm hk
  go_enter Tryz.func165, Tryz.ntmps165
  go_wp2_with (go_at_call 167; (with_reducible refine CY.out.mono ?_); rintro e w1 ⟨g, rfl, hm1, hg1, hb1⟩; have HM1 := Lib.hid hm1; have HB1 := Lib.hid hb1; clear hm1 hb1)
  have c0 := cell_up c0w HB1.out
  have WY1 : Hid (∀ w', Below w1.heap.size w1 w' → _) := Lib.hid (fun w' hb2 => WY.out w' (below_call HB1.out hb2 (Nat.le_refl _)))
  have TL1 : Hid (∀ w', Below w1.heap.size w1 w' → _) := Lib.hid (fun w' hb2 => TL.out w' g (below_call HB1.out hb2 (Nat.le_refl _)) (HM1.out.up hb2))
  go_region_held3 (fun w' => w'.cell? ⟨b, 0, none⟩ = some (.pointer (some gp))) (first | (with_reducible assumption) | (with_reducible refine cell_up c0 ?_ <;> (repeat' (first | (with_reducible exact Below.refl _ _) | (with_reducible assumption) | (with_reducible refine below_over ?_ _ _) | (with_reducible refine Lw.below_alloc ?_ _) | (with_reducible refine Below.drew ?_) | (with_reducible refine below_drewN ?_ _) | (with_reducible refine Below.setCell ?_ ?_ _) | go_size)))) (first
    | (go_at_call 75; (with_reducible refine (WY1.out _ (by (repeat' (first | (with_reducible exact Below.refl _ _) | (with_reducible assumption) | (with_reducible refine below_over ?_ _ _) | (with_reducible refine Lw.below_alloc ?_ _) | (with_reducible refine Below.drew ?_) | (with_reducible refine below_drewN ?_ _) | (with_reducible refine Below.setCell ?_ ?_ _) | go_size)))).mono ?_); rintro e w' ⟨rfl, hb2⟩; obtain ⟨bs, d2, rfl⟩ := below_grow hb2; clear hb2)
    | (go_at_call 105; (with_reducible refine (TL1.out _ (by (repeat' (first | (with_reducible exact Below.refl _ _) | (with_reducible assumption) | (with_reducible refine below_over ?_ _ _) | (with_reducible refine Lw.below_alloc ?_ _) | (with_reducible refine Below.drew ?_) | (with_reducible refine below_drewN ?_ _) | (with_reducible refine Below.setCell ?_ ?_ _) | go_size)))).mono ?_); rintro e w' ⟨rfl, hb2⟩; obtain ⟨bs3, d3, rfl⟩ := below_grow hb2; clear hb2))
  all_goals go_wp2
  all_goals go_ret2
  all_goals exact ⟨rfl, below_call HB1.out (by (repeat' (first | (with_reducible exact Below.refl _ _) | (with_reducible assumption) | (with_reducible refine below_over ?_ _ _) | (with_reducible refine Lw.below_alloc ?_ _) | (with_reducible refine Below.drew ?_) | (with_reducible refine below_drewN ?_ _) | (with_reducible refine Below.setCell ?_ ?_ _) | go_size))) (Nat.le_refl _)⟩
set_option maxRecDepth 100000 in
set_option maxHeartbeats 4000000 in
theorem supd_lin (p : Addr) (F : Nat → Prop) (c : Cfg) (l : Int) (L : List (List Int)) (k : Int) (w : World) (h : SK w p F c l L) (k0 : 0 ≤ k) (k1 : k ≤ 18446744073709551615) (d : Int) (d0 : -9223372036854775808 ≤ d) (d1 : d ≤ 9223372036854775807) (hk : k < keys c l) (hm : c.md = 1) :
    Calls Tryz.prog 166 #[.pointer (some p), .int .u64 k, .int .i64 d] w fun e w' => e = .returned (.int .i64 (chCode (rws c) (wds c) L (cols c l k) d)) ∧ ∃ F', SK w' p F' c l (chRes (rws c) (wds c) L (cols c l k) d) ∧ Kept F w w' ∧ (∀ q, F' q → F q ∨ w.heap.size ≤ q) := by
  have HS := Lib.hid h
  obtain ⟨hr, hok, hl0, hl1, b, gp, G, rfl, hb, hg, hGb, rfl⟩ := h
  have hbl := size_of_heap hb
  have c0w := grd_cell hb 0 (v := .pointer (some gp)) rfl
  have CY := Lib.hid (scolumns_yes _ _ c l L k w HS.out k0 k1 hk)
  have WY : Hid (∀ w', Below w.heap.size w w' → Calls Tryz.prog 75 #[.pointer (some ⟨b, 0, none⟩)] w' fun e w2 => e = .returned (.agg #[.func (.func 107) #[] #[], .func (.func 105) #[] #[], .bool true]) ∧ Below w'.heap.size w' w2) := Lib.hid (fun w' hb2 => way_lin _ _ c l L w' (HS.out.up hb2) hm)
  have hcl : (cols c l k).length = rws c := (cols_meet k0 hk).2.1
  have hrw := rws_bd hr
  have TL : Hid (∀ w' g, Below w.heap.size w w' → Ord.Mid w' g 0 (cols c l k) → w.heap.size ≤ g → Calls Tryz.prog 107 #[.pointer (some gp), .slice (some ⟨g, 0, none⟩) (rws c) (rws c), .int .i64 d] w' fun e w2 => e = .returned (.int .i64 (chCode (rws c) (wds c) L (cols c l k) d)) ∧ ∃ G', PG w2 gp G' (rws c) (wds c) (chRes (rws c) (wds c) L (cols c l k) d) ∧ Kept G w w2 ∧ (∀ q, G' q → G q ∨ w.heap.size ≤ q)) := Lib.hid (fun w' g hb2 hmid hg2 => (change_any gp G _ _ L _ _ _ _ d w' (pg_up hg hb2) hmid.rd (fun a ha hGa => by injection ha with ha; subst ha; have := (pgT gp G _ _ L).lt w hg g hGa; omega) hcl (by omega) (in64_cols c l k) d0 d1).mono (fun e w2 ⟨e1, G', h1, h2, h3⟩ => ⟨e1, G', h1, (Kept.of_below hb2).trans h2 (fun q hq h => h), fun q hq => (h3 q hq).elim .inl (fun h => .inr (Nat.le_trans hb2.size h))⟩))
  have HT : Hid (∀ w' G', PG w' gp G' (rws c) (wds c) (chRes (rws c) (wds c) L (cols c l k) d) → Kept G w w' → (∀ k, G' k → G k ∨ w.heap.size ≤ k) → ∃ F', SK w' ⟨b, 0, none⟩ F' c l (chRes (rws c) (wds c) L (cols c l k) d) ∧ Kept (fun k => k = b ∨ G k) w w' ∧ (∀ q, F' q → (q = b ∨ G q) ∨ w.heap.size ≤ q)) := Lib.hid (fun w' G' h1 h2 h3 => sk_turn hr hok hl0 hl1 hb hGb h1 h2 h3)
  obtain ⟨n, hn⟩ : ∃ n, rws c = n := ⟨_, rfl⟩
  obtain ⟨V, hV⟩ : ∃ V, chCode (rws c) (wds c) L (cols c l k) d = V := ⟨_, rfl⟩
  obtain ⟨R, hR⟩ : ∃ R, chRes (rws c) (wds c) L (cols c l k) d = R := ⟨_, rfl⟩
  rw [hV, hR] at TL
  rw [hR] at HT
  rw [hV, hR]
  rw [hn] at CY TL HT
  have hfd : ∀ w : World, (Instr.field 142 (.agg #[.func (.func 107) #[] #[], .func (.func 105) #[] #[], .bool true]) 0).run Tryz.prog w = .ok (.func (.func 107) #[] #[]) w := fun _ => by kernel_rfl
  clear hb hg hcl hrw hn hV hR hm hk
  go_enter Tryz.func166, Tryz.ntmps166
  go_wp2_with (go_at_call 167; (with_reducible refine CY.out.mono ?_); rintro e w1 ⟨g, rfl, hm1, hg1, hb1⟩; have HM1 := Lib.hid hm1; have HB1 := Lib.hid hb1; clear hm1 hb1)
  have c0 := cell_up c0w HB1.out
  have WY1 : Hid (∀ w', Below w1.heap.size w1 w' → _) := Lib.hid (fun w' hb2 => WY.out w' (below_call HB1.out hb2 (Nat.le_refl _)))
  have TL1 : Hid (∀ w', Below w1.heap.size w1 w' → _) := Lib.hid (fun w' hb2 => TL.out w' g (below_call HB1.out hb2 (Nat.le_refl _)) (HM1.out.up hb2) hg1)
  go_region_held3 (fun w' => w'.cell? ⟨b, 0, none⟩ = some (.pointer (some gp))) (first | (with_reducible assumption) | (with_reducible refine cell_up c0 ?_ <;> (repeat' (first | (with_reducible exact Below.refl _ _) | (with_reducible assumption) | (with_reducible refine below_over ?_ _ _) | (with_reducible refine Lw.below_alloc ?_ _) | (with_reducible refine Below.drew ?_) | (with_reducible refine below_drewN ?_ _) | (with_reducible refine Below.setCell ?_ ?_ _) | go_size)))) (first
    | (go_at_call 75; (with_reducible refine (WY1.out _ (by (repeat' (first | (with_reducible exact Below.refl _ _) | (with_reducible assumption) | (with_reducible refine below_over ?_ _ _) | (with_reducible refine Lw.below_alloc ?_ _) | (with_reducible refine Below.drew ?_) | (with_reducible refine below_drewN ?_ _) | (with_reducible refine Below.setCell ?_ ?_ _) | go_size)))).mono ?_); rintro e w' ⟨rfl, hb2⟩; obtain ⟨bs, d2, rfl⟩ := below_grow hb2; clear hb2)
    | (go_at_call 107; (with_reducible refine (TL1.out _ (by (repeat' (first | (with_reducible exact Below.refl _ _) | (with_reducible assumption) | (with_reducible refine below_over ?_ _ _) | (with_reducible refine Lw.below_alloc ?_ _) | (with_reducible refine Below.drew ?_) | (with_reducible refine below_drewN ?_ _) | (with_reducible refine Below.setCell ?_ ?_ _) | go_size)))).mono ?_); rintro e w6 ⟨rfl, G6, hp6, hk6, hf6⟩; have HP6 := Lib.hid hp6; have HK6 := Lib.hid hk6; have HF6 := Lib.hid hf6; have x0 : w6.cell? ⟨b, 0, none⟩ = some (.pointer (some gp)) := hk6.cell c0w hGb; clear hp6 hk6 hf6))
  all_goals go_wp2
  all_goals go_ret
  all_goals exact ⟨rfl, HT.out _ _ HP6.out HK6.out HF6.out⟩
set_option maxRecDepth 100000 in
set_option maxHeartbeats 4000000 in
theorem spoint_con (p : Addr) (F : Nat → Prop) (c : Cfg) (l : Int) (L : List (List Int)) (k : Int) (w : World) (h : SK w p F c l L) (k0 : 0 ≤ k) (k1 : k ≤ 18446744073709551615) (hk : k < keys c l) (hm : c.md = 2) :
    Calls Tryz.prog 165 #[.pointer (some p), .int .u64 k] w fun e w' => e = .returned (.tuple #[.int .i64 (lea L (cols c l k)), .int .i64 0]) ∧ Below w.heap.size w w' := by
  have HS := Lib.hid h
  obtain ⟨hr, hok, hl0, hl1, b, gp, G, rfl, hb, hg, hGb, rfl⟩ := h
  have hbl := size_of_heap hb
  have c0w := grd_cell hb 0 (v := .pointer (some gp)) rfl
  have CY := Lib.hid (scolumns_yes _ _ c l L k w HS.out k0 k1 hk)
  have WY : Hid (∀ w', Below w.heap.size w w' → Calls Tryz.prog 75 #[.pointer (some ⟨b, 0, none⟩)] w' fun e w2 => e = .returned (.agg #[.func (.func 104) #[] #[], .func (.func 105) #[] #[], .bool false]) ∧ Below w'.heap.size w' w2) := Lib.hid (fun w' hb2 => way_con _ _ c l L w' (HS.out.up hb2) hm)
  have hcl : (cols c l k).length = rws c := (cols_meet k0 hk).2.1
  have hrw := rws_bd hr
  have TL : Hid (∀ w' g, Below w.heap.size w w' → Ord.Mid w' g 0 (cols c l k) → Calls Tryz.prog 105 #[.pointer (some gp), .slice (some ⟨g, 0, none⟩) (rws c) (rws c)] w' fun e w2 => e = .returned (.tuple #[.int .i64 (lea L (cols c l k)), .int .i64 0]) ∧ Below w'.heap.size w' w2) := Lib.hid (fun w' g hb2 hmid => least_yes gp G _ _ L _ _ _ _ w' (pg_up hg hb2) hmid.rd hcl (by omega) (in64_cols c l k) (cols_meet k0 hk))
  obtain ⟨n, hn⟩ : ∃ n, rws c = n := ⟨_, rfl⟩
  obtain ⟨V, hV⟩ : ∃ V, lea L (cols c l k) = V := ⟨_, rfl⟩
  rw [hV] at TL ⊢
  rw [hn] at CY TL
  have hfd : ∀ w : World, (Instr.field 142 (.agg #[.func (.func 104) #[] #[], .func (.func 105) #[] #[], .bool false]) 1).run Tryz.prog w = .ok (.func (.func 105) #[] #[]) w := fun _ => by kernel_rfl
  clear hb hg hcl hrw hn hV hm hk
  go_enter Tryz.func165, Tryz.ntmps165
  go_wp2_with (go_at_call 167; (with_reducible refine CY.out.mono ?_); rintro e w1 ⟨g, rfl, hm1, hg1, hb1⟩; have HM1 := Lib.hid hm1; have HB1 := Lib.hid hb1; clear hm1 hb1)
  have c0 := cell_up c0w HB1.out
  have WY1 : Hid (∀ w', Below w1.heap.size w1 w' → _) := Lib.hid (fun w' hb2 => WY.out w' (below_call HB1.out hb2 (Nat.le_refl _)))
  have TL1 : Hid (∀ w', Below w1.heap.size w1 w' → _) := Lib.hid (fun w' hb2 => TL.out w' g (below_call HB1.out hb2 (Nat.le_refl _)) (HM1.out.up hb2))
  go_region_held3 (fun w' => w'.cell? ⟨b, 0, none⟩ = some (.pointer (some gp))) (first | (with_reducible assumption) | (with_reducible refine cell_up c0 ?_ <;> (repeat' (first | (with_reducible exact Below.refl _ _) | (with_reducible assumption) | (with_reducible refine below_over ?_ _ _) | (with_reducible refine Lw.below_alloc ?_ _) | (with_reducible refine Below.drew ?_) | (with_reducible refine below_drewN ?_ _) | (with_reducible refine Below.setCell ?_ ?_ _) | go_size)))) (first
    | (go_at_call 75; (with_reducible refine (WY1.out _ (by (repeat' (first | (with_reducible exact Below.refl _ _) | (with_reducible assumption) | (with_reducible refine below_over ?_ _ _) | (with_reducible refine Lw.below_alloc ?_ _) | (with_reducible refine Below.drew ?_) | (with_reducible refine below_drewN ?_ _) | (with_reducible refine Below.setCell ?_ ?_ _) | go_size)))).mono ?_); rintro e w' ⟨rfl, hb2⟩; obtain ⟨bs, d2, rfl⟩ := below_grow hb2; clear hb2)
    | (go_at_call 105; (with_reducible refine (TL1.out _ (by (repeat' (first | (with_reducible exact Below.refl _ _) | (with_reducible assumption) | (with_reducible refine below_over ?_ _ _) | (with_reducible refine Lw.below_alloc ?_ _) | (with_reducible refine Below.drew ?_) | (with_reducible refine below_drewN ?_ _) | (with_reducible refine Below.setCell ?_ ?_ _) | go_size)))).mono ?_); rintro e w' ⟨rfl, hb2⟩; obtain ⟨bs3, d3, rfl⟩ := below_grow hb2; clear hb2))
  all_goals go_wp2
  all_goals go_ret2
  all_goals exact ⟨rfl, below_call HB1.out (by (repeat' (first | (with_reducible exact Below.refl _ _) | (with_reducible assumption) | (with_reducible refine below_over ?_ _ _) | (with_reducible refine Lw.below_alloc ?_ _) | (with_reducible refine Below.drew ?_) | (with_reducible refine below_drewN ?_ _) | (with_reducible refine Below.setCell ?_ ?_ _) | go_size))) (Nat.le_refl _)⟩
set_option maxRecDepth 100000 in
set_option maxHeartbeats 4000000 in
theorem supd_con (p : Addr) (F : Nat → Prop) (c : Cfg) (l : Int) (L : List (List Int)) (k : Int) (w : World) (h : SK w p F c l L) (k0 : 0 ≤ k) (k1 : k ≤ 18446744073709551615) (d : Int) (d0 : -9223372036854775808 ≤ d) (d1 : d ≤ 9223372036854775807) (hk : k < keys c l) (hm : c.md = 2) :
    Calls Tryz.prog 166 #[.pointer (some p), .int .u64 k, .int .i64 d] w fun e w' => e = .returned (.int .i64 (rsCode (rws c) (wds c) L (cols c l k) d)) ∧ ∃ F', SK w' p F' c l (rsRes (rws c) (wds c) L (cols c l k) d) ∧ Kept F w w' ∧ (∀ q, F' q → F q ∨ w.heap.size ≤ q) := by
  have HS := Lib.hid h
  obtain ⟨hr, hok, hl0, hl1, b, gp, G, rfl, hb, hg, hGb, rfl⟩ := h
  have hbl := size_of_heap hb
  have c0w := grd_cell hb 0 (v := .pointer (some gp)) rfl
  have CY := Lib.hid (scolumns_yes _ _ c l L k w HS.out k0 k1 hk)
  have WY : Hid (∀ w', Below w.heap.size w w' → Calls Tryz.prog 75 #[.pointer (some ⟨b, 0, none⟩)] w' fun e w2 => e = .returned (.agg #[.func (.func 104) #[] #[], .func (.func 105) #[] #[], .bool false]) ∧ Below w'.heap.size w' w2) := Lib.hid (fun w' hb2 => way_con _ _ c l L w' (HS.out.up hb2) hm)
  have hcl : (cols c l k).length = rws c := (cols_meet k0 hk).2.1
  have hrw := rws_bd hr
  have TL : Hid (∀ w' g, Below w.heap.size w w' → Ord.Mid w' g 0 (cols c l k) → w.heap.size ≤ g → Calls Tryz.prog 104 #[.pointer (some gp), .slice (some ⟨g, 0, none⟩) (rws c) (rws c), .int .i64 d] w' fun e w2 => e = .returned (.int .i64 (rsCode (rws c) (wds c) L (cols c l k) d)) ∧ ∃ G', PG w2 gp G' (rws c) (wds c) (rsRes (rws c) (wds c) L (cols c l k) d) ∧ Kept G w w2 ∧ (∀ q, G' q → G q ∨ w.heap.size ≤ q)) := Lib.hid (fun w' g hb2 hmid hg2 => (raise_any gp G _ _ L _ _ _ _ d w' (pg_up hg hb2) hmid.rd (fun a ha hGa => by injection ha with ha; subst ha; have := (pgT gp G _ _ L).lt w hg g hGa; omega) hcl (by omega) (in64_cols c l k) d0 d1).mono (fun e w2 ⟨e1, G', h1, h2, h3⟩ => ⟨e1, G', h1, (Kept.of_below hb2).trans h2 (fun q hq h => h), fun q hq => (h3 q hq).elim .inl (fun h => .inr (Nat.le_trans hb2.size h))⟩))
  have HT : Hid (∀ w' G', PG w' gp G' (rws c) (wds c) (rsRes (rws c) (wds c) L (cols c l k) d) → Kept G w w' → (∀ k, G' k → G k ∨ w.heap.size ≤ k) → ∃ F', SK w' ⟨b, 0, none⟩ F' c l (rsRes (rws c) (wds c) L (cols c l k) d) ∧ Kept (fun k => k = b ∨ G k) w w' ∧ (∀ q, F' q → (q = b ∨ G q) ∨ w.heap.size ≤ q)) := Lib.hid (fun w' G' h1 h2 h3 => sk_turn hr hok hl0 hl1 hb hGb h1 h2 h3)
  obtain ⟨n, hn⟩ : ∃ n, rws c = n := ⟨_, rfl⟩
  obtain ⟨V, hV⟩ : ∃ V, rsCode (rws c) (wds c) L (cols c l k) d = V := ⟨_, rfl⟩
  obtain ⟨R, hR⟩ : ∃ R, rsRes (rws c) (wds c) L (cols c l k) d = R := ⟨_, rfl⟩
  rw [hV, hR] at TL
  rw [hR] at HT
  rw [hV, hR]
  rw [hn] at CY TL HT
  have hfd : ∀ w : World, (Instr.field 142 (.agg #[.func (.func 104) #[] #[], .func (.func 105) #[] #[], .bool false]) 0).run Tryz.prog w = .ok (.func (.func 104) #[] #[]) w := fun _ => by kernel_rfl
  clear hb hg hcl hrw hn hV hR hm hk
  go_enter Tryz.func166, Tryz.ntmps166
  go_wp2_with (go_at_call 167; (with_reducible refine CY.out.mono ?_); rintro e w1 ⟨g, rfl, hm1, hg1, hb1⟩; have HM1 := Lib.hid hm1; have HB1 := Lib.hid hb1; clear hm1 hb1)
  have c0 := cell_up c0w HB1.out
  have WY1 : Hid (∀ w', Below w1.heap.size w1 w' → _) := Lib.hid (fun w' hb2 => WY.out w' (below_call HB1.out hb2 (Nat.le_refl _)))
  have TL1 : Hid (∀ w', Below w1.heap.size w1 w' → _) := Lib.hid (fun w' hb2 => TL.out w' g (below_call HB1.out hb2 (Nat.le_refl _)) (HM1.out.up hb2) hg1)
  go_region_held3 (fun w' => w'.cell? ⟨b, 0, none⟩ = some (.pointer (some gp))) (first | (with_reducible assumption) | (with_reducible refine cell_up c0 ?_ <;> (repeat' (first | (with_reducible exact Below.refl _ _) | (with_reducible assumption) | (with_reducible refine below_over ?_ _ _) | (with_reducible refine Lw.below_alloc ?_ _) | (with_reducible refine Below.drew ?_) | (with_reducible refine below_drewN ?_ _) | (with_reducible refine Below.setCell ?_ ?_ _) | go_size)))) (first
    | (go_at_call 75; (with_reducible refine (WY1.out _ (by (repeat' (first | (with_reducible exact Below.refl _ _) | (with_reducible assumption) | (with_reducible refine below_over ?_ _ _) | (with_reducible refine Lw.below_alloc ?_ _) | (with_reducible refine Below.drew ?_) | (with_reducible refine below_drewN ?_ _) | (with_reducible refine Below.setCell ?_ ?_ _) | go_size)))).mono ?_); rintro e w' ⟨rfl, hb2⟩; obtain ⟨bs, d2, rfl⟩ := below_grow hb2; clear hb2)
    | (go_at_call 104; (with_reducible refine (TL1.out _ (by (repeat' (first | (with_reducible exact Below.refl _ _) | (with_reducible assumption) | (with_reducible refine below_over ?_ _ _) | (with_reducible refine Lw.below_alloc ?_ _) | (with_reducible refine Below.drew ?_) | (with_reducible refine below_drewN ?_ _) | (with_reducible refine Below.setCell ?_ ?_ _) | go_size)))).mono ?_); rintro e w6 ⟨rfl, G6, hp6, hk6, hf6⟩; have HP6 := Lib.hid hp6; have HK6 := Lib.hid hk6; have HF6 := Lib.hid hf6; have x0 : w6.cell? ⟨b, 0, none⟩ = some (.pointer (some gp)) := hk6.cell c0w hGb; clear hp6 hk6 hf6))
  all_goals go_wp2
  all_goals go_ret
  all_goals exact ⟨rfl, HT.out _ _ HP6.out HK6.out HF6.out⟩
set_option maxRecDepth 100000 in
set_option maxHeartbeats 4000000 in
theorem spoint_med (p : Addr) (F : Nat → Prop) (c : Cfg) (l : Int) (L : List (List Int)) (k : Int) (w : World) (h : SK w p F c l L) (k0 : 0 ≤ k) (k1 : k ≤ 18446744073709551615) (hk : k < keys c l) (hm : c.md = 3) :
    Calls Tryz.prog 165 #[.pointer (some p), .int .u64 k] w fun e w' => e = .returned (.tuple #[.int .i64 (Ord.kv (named L (cols c l k)) ((((named L (cols c l k)).length : Int) - 1) / 2)), .int .i64 0]) ∧ Below w.heap.size w w' := by
  have HS := Lib.hid h
  obtain ⟨hr, hok, hl0, hl1, b, gp, G, rfl, hb, hg, hGb, rfl⟩ := h
  have hbl := size_of_heap hb
  have c0w := grd_cell hb 0 (v := .pointer (some gp)) rfl
  have CY := Lib.hid (scolumns_yes _ _ c l L k w HS.out k0 k1 hk)
  have WY : Hid (∀ w', Below w.heap.size w w' → Calls Tryz.prog 75 #[.pointer (some ⟨b, 0, none⟩)] w' fun e w2 => e = .returned (.agg #[.func (.func 107) #[] #[], .func (.func 106) #[] #[], .bool true]) ∧ Below w'.heap.size w' w2) := Lib.hid (fun w' hb2 => way_med _ _ c l L w' (HS.out.up hb2) hm)
  have hcl : (cols c l k).length = rws c := (cols_meet k0 hk).2.1
  have hrw := rws_bd hr
  have TL : Hid (∀ w' g, Below w.heap.size w w' → Ord.Mid w' g 0 (cols c l k) → Calls Tryz.prog 106 #[.pointer (some gp), .slice (some ⟨g, 0, none⟩) (rws c) (rws c)] w' fun e w2 => e = .returned (.tuple #[.int .i64 (Ord.kv (named L (cols c l k)) ((((named L (cols c l k)).length : Int) - 1) / 2)), .int .i64 0]) ∧ Below w'.heap.size w' w2) := Lib.hid (fun w' g hb2 hmid => middle_yes gp G _ _ L _ _ _ _ w' (pg_up hg hb2) hmid.rd hcl (by omega) (in64_cols c l k) (cols_meet k0 hk))
  obtain ⟨n, hn⟩ : ∃ n, rws c = n := ⟨_, rfl⟩
  obtain ⟨V, hV⟩ : ∃ V, Ord.kv (named L (cols c l k)) ((((named L (cols c l k)).length : Int) - 1) / 2) = V := ⟨_, rfl⟩
  rw [hV] at TL ⊢
  rw [hn] at CY TL
  have hfd : ∀ w : World, (Instr.field 142 (.agg #[.func (.func 107) #[] #[], .func (.func 106) #[] #[], .bool true]) 1).run Tryz.prog w = .ok (.func (.func 106) #[] #[]) w := fun _ => by kernel_rfl
  clear hb hg hcl hrw hn hV hm hk
  go_enter Tryz.func165, Tryz.ntmps165
  go_wp2_with (go_at_call 167; (with_reducible refine CY.out.mono ?_); rintro e w1 ⟨g, rfl, hm1, hg1, hb1⟩; have HM1 := Lib.hid hm1; have HB1 := Lib.hid hb1; clear hm1 hb1)
  have c0 := cell_up c0w HB1.out
  have WY1 : Hid (∀ w', Below w1.heap.size w1 w' → _) := Lib.hid (fun w' hb2 => WY.out w' (below_call HB1.out hb2 (Nat.le_refl _)))
  have TL1 : Hid (∀ w', Below w1.heap.size w1 w' → _) := Lib.hid (fun w' hb2 => TL.out w' g (below_call HB1.out hb2 (Nat.le_refl _)) (HM1.out.up hb2))
  go_region_held3 (fun w' => w'.cell? ⟨b, 0, none⟩ = some (.pointer (some gp))) (first | (with_reducible assumption) | (with_reducible refine cell_up c0 ?_ <;> (repeat' (first | (with_reducible exact Below.refl _ _) | (with_reducible assumption) | (with_reducible refine below_over ?_ _ _) | (with_reducible refine Lw.below_alloc ?_ _) | (with_reducible refine Below.drew ?_) | (with_reducible refine below_drewN ?_ _) | (with_reducible refine Below.setCell ?_ ?_ _) | go_size)))) (first
    | (go_at_call 75; (with_reducible refine (WY1.out _ (by (repeat' (first | (with_reducible exact Below.refl _ _) | (with_reducible assumption) | (with_reducible refine below_over ?_ _ _) | (with_reducible refine Lw.below_alloc ?_ _) | (with_reducible refine Below.drew ?_) | (with_reducible refine below_drewN ?_ _) | (with_reducible refine Below.setCell ?_ ?_ _) | go_size)))).mono ?_); rintro e w' ⟨rfl, hb2⟩; obtain ⟨bs, d2, rfl⟩ := below_grow hb2; clear hb2)
    | (go_at_call 106; (with_reducible refine (TL1.out _ (by (repeat' (first | (with_reducible exact Below.refl _ _) | (with_reducible assumption) | (with_reducible refine below_over ?_ _ _) | (with_reducible refine Lw.below_alloc ?_ _) | (with_reducible refine Below.drew ?_) | (with_reducible refine below_drewN ?_ _) | (with_reducible refine Below.setCell ?_ ?_ _) | go_size)))).mono ?_); rintro e w' ⟨rfl, hb2⟩; obtain ⟨bs3, d3, rfl⟩ := below_grow hb2; clear hb2))
  all_goals go_wp2
  all_goals go_ret2
  all_goals exact ⟨rfl, below_call HB1.out (by (repeat' (first | (with_reducible exact Below.refl _ _) | (with_reducible assumption) | (with_reducible refine below_over ?_ _ _) | (with_reducible refine Lw.below_alloc ?_ _) | (with_reducible refine Below.drew ?_) | (with_reducible refine below_drewN ?_ _) | (with_reducible refine Below.setCell ?_ ?_ _) | go_size))) (Nat.le_refl _)⟩
set_option maxRecDepth 100000 in
set_option maxHeartbeats 4000000 in
theorem supd_med (p : Addr) (F : Nat → Prop) (c : Cfg) (l : Int) (L : List (List Int)) (k : Int) (w : World) (h : SK w p F c l L) (k0 : 0 ≤ k) (k1 : k ≤ 18446744073709551615) (d : Int) (d0 : -9223372036854775808 ≤ d) (d1 : d ≤ 9223372036854775807) (hk : k < keys c l) (hm : c.md = 3) :
    Calls Tryz.prog 166 #[.pointer (some p), .int .u64 k, .int .i64 d] w fun e w' => e = .returned (.int .i64 (chCode (rws c) (wds c) L (cols c l k) d)) ∧ ∃ F', SK w' p F' c l (chRes (rws c) (wds c) L (cols c l k) d) ∧ Kept F w w' ∧ (∀ q, F' q → F q ∨ w.heap.size ≤ q) := by
  have HS := Lib.hid h
  obtain ⟨hr, hok, hl0, hl1, b, gp, G, rfl, hb, hg, hGb, rfl⟩ := h
  have hbl := size_of_heap hb
  have c0w := grd_cell hb 0 (v := .pointer (some gp)) rfl
  have CY := Lib.hid (scolumns_yes _ _ c l L k w HS.out k0 k1 hk)
  have WY : Hid (∀ w', Below w.heap.size w w' → Calls Tryz.prog 75 #[.pointer (some ⟨b, 0, none⟩)] w' fun e w2 => e = .returned (.agg #[.func (.func 107) #[] #[], .func (.func 106) #[] #[], .bool true]) ∧ Below w'.heap.size w' w2) := Lib.hid (fun w' hb2 => way_med _ _ c l L w' (HS.out.up hb2) hm)
  have hcl : (cols c l k).length = rws c := (cols_meet k0 hk).2.1
  have hrw := rws_bd hr
  have TL : Hid (∀ w' g, Below w.heap.size w w' → Ord.Mid w' g 0 (cols c l k) → w.heap.size ≤ g → Calls Tryz.prog 107 #[.pointer (some gp), .slice (some ⟨g, 0, none⟩) (rws c) (rws c), .int .i64 d] w' fun e w2 => e = .returned (.int .i64 (chCode (rws c) (wds c) L (cols c l k) d)) ∧ ∃ G', PG w2 gp G' (rws c) (wds c) (chRes (rws c) (wds c) L (cols c l k) d) ∧ Kept G w w2 ∧ (∀ q, G' q → G q ∨ w.heap.size ≤ q)) := Lib.hid (fun w' g hb2 hmid hg2 => (change_any gp G _ _ L _ _ _ _ d w' (pg_up hg hb2) hmid.rd (fun a ha hGa => by injection ha with ha; subst ha; have := (pgT gp G _ _ L).lt w hg g hGa; omega) hcl (by omega) (in64_cols c l k) d0 d1).mono (fun e w2 ⟨e1, G', h1, h2, h3⟩ => ⟨e1, G', h1, (Kept.of_below hb2).trans h2 (fun q hq h => h), fun q hq => (h3 q hq).elim .inl (fun h => .inr (Nat.le_trans hb2.size h))⟩))
  have HT : Hid (∀ w' G', PG w' gp G' (rws c) (wds c) (chRes (rws c) (wds c) L (cols c l k) d) → Kept G w w' → (∀ k, G' k → G k ∨ w.heap.size ≤ k) → ∃ F', SK w' ⟨b, 0, none⟩ F' c l (chRes (rws c) (wds c) L (cols c l k) d) ∧ Kept (fun k => k = b ∨ G k) w w' ∧ (∀ q, F' q → (q = b ∨ G q) ∨ w.heap.size ≤ q)) := Lib.hid (fun w' G' h1 h2 h3 => sk_turn hr hok hl0 hl1 hb hGb h1 h2 h3)
  obtain ⟨n, hn⟩ : ∃ n, rws c = n := ⟨_, rfl⟩
  obtain ⟨V, hV⟩ : ∃ V, chCode (rws c) (wds c) L (cols c l k) d = V := ⟨_, rfl⟩
  obtain ⟨R, hR⟩ : ∃ R, chRes (rws c) (wds c) L (cols c l k) d = R := ⟨_, rfl⟩
  rw [hV, hR] at TL
  rw [hR] at HT
  rw [hV, hR]
  rw [hn] at CY TL HT
  have hfd : ∀ w : World, (Instr.field 142 (.agg #[.func (.func 107) #[] #[], .func (.func 106) #[] #[], .bool true]) 0).run Tryz.prog w = .ok (.func (.func 107) #[] #[]) w := fun _ => by kernel_rfl
  clear hb hg hcl hrw hn hV hR hm hk
  go_enter Tryz.func166, Tryz.ntmps166
  go_wp2_with (go_at_call 167; (with_reducible refine CY.out.mono ?_); rintro e w1 ⟨g, rfl, hm1, hg1, hb1⟩; have HM1 := Lib.hid hm1; have HB1 := Lib.hid hb1; clear hm1 hb1)
  have c0 := cell_up c0w HB1.out
  have WY1 : Hid (∀ w', Below w1.heap.size w1 w' → _) := Lib.hid (fun w' hb2 => WY.out w' (below_call HB1.out hb2 (Nat.le_refl _)))
  have TL1 : Hid (∀ w', Below w1.heap.size w1 w' → _) := Lib.hid (fun w' hb2 => TL.out w' g (below_call HB1.out hb2 (Nat.le_refl _)) (HM1.out.up hb2) hg1)
  go_region_held3 (fun w' => w'.cell? ⟨b, 0, none⟩ = some (.pointer (some gp))) (first | (with_reducible assumption) | (with_reducible refine cell_up c0 ?_ <;> (repeat' (first | (with_reducible exact Below.refl _ _) | (with_reducible assumption) | (with_reducible refine below_over ?_ _ _) | (with_reducible refine Lw.below_alloc ?_ _) | (with_reducible refine Below.drew ?_) | (with_reducible refine below_drewN ?_ _) | (with_reducible refine Below.setCell ?_ ?_ _) | go_size)))) (first
    | (go_at_call 75; (with_reducible refine (WY1.out _ (by (repeat' (first | (with_reducible exact Below.refl _ _) | (with_reducible assumption) | (with_reducible refine below_over ?_ _ _) | (with_reducible refine Lw.below_alloc ?_ _) | (with_reducible refine Below.drew ?_) | (with_reducible refine below_drewN ?_ _) | (with_reducible refine Below.setCell ?_ ?_ _) | go_size)))).mono ?_); rintro e w' ⟨rfl, hb2⟩; obtain ⟨bs, d2, rfl⟩ := below_grow hb2; clear hb2)
    | (go_at_call 107; (with_reducible refine (TL1.out _ (by (repeat' (first | (with_reducible exact Below.refl _ _) | (with_reducible assumption) | (with_reducible refine below_over ?_ _ _) | (with_reducible refine Lw.below_alloc ?_ _) | (with_reducible refine Below.drew ?_) | (with_reducible refine below_drewN ?_ _) | (with_reducible refine Below.setCell ?_ ?_ _) | go_size)))).mono ?_); rintro e w6 ⟨rfl, G6, hp6, hk6, hf6⟩; have HP6 := Lib.hid hp6; have HK6 := Lib.hid hk6; have HF6 := Lib.hid hf6; have x0 : w6.cell? ⟨b, 0, none⟩ = some (.pointer (some gp)) := hk6.cell c0w hGb; clear hp6 hk6 hf6))
  all_goals go_wp2
  all_goals go_ret
  all_goals exact ⟨rfl, HT.out _ _ HP6.out HK6.out HF6.out⟩
theorem spoint_any (p : Addr) (F : Nat → Prop) (c : Cfg) (l : Int) (L : List (List Int)) (k : Int) (w : World) (h : SK w p F c l L) (k0 : 0 ≤ k) (k1 : k ≤ 18446744073709551615) :
    Calls Tryz.prog 165 #[.pointer (some p), .int .u64 k] w fun e w' => e = .returned (.tuple #[.int .i64 (ptVal c l L k), .int .i64 (ptCode c l k)]) ∧ Below w.heap.size w w' := by
  unfold ptVal ptCode
  by_cases hk : keys c l ≤ k
  · rw [if_pos hk, if_pos hk]
    exact spoint_no p F c l L k w h k0 k1 hk
  rw [if_neg hk, if_neg hk]
  have hr := h.1
  have h3 : c.md = 1 ∨ c.md = 2 ∨ c.md = 3 := by have := hr.2.2.2.2.2.2; omega
  rcases h3 with h3 | h3 | h3
  · rw [if_neg (by omega)]; exact spoint_lin p F c l L k w h k0 k1 (by omega) h3
  · rw [if_neg (by omega)]; exact spoint_con p F c l L k w h k0 k1 (by omega) h3
  · rw [if_pos h3]; exact spoint_med p F c l L k w h k0 k1 (by omega) h3
theorem supd_any (p : Addr) (F : Nat → Prop) (c : Cfg) (l : Int) (L : List (List Int)) (k d : Int) (w : World) (h : SK w p F c l L) (k0 : 0 ≤ k) (k1 : k ≤ 18446744073709551615) (d0 : -9223372036854775808 ≤ d) (d1 : d ≤ 9223372036854775807) :
    Calls Tryz.prog 166 #[.pointer (some p), .int .u64 k, .int .i64 d] w fun e w' => e = .returned (.int .i64 (upCode c l L k d)) ∧ ∃ F', SK w' p F' c l (upRes c l L k d) ∧ Kept F w w' ∧ (∀ q, F' q → F q ∨ w.heap.size ≤ q) := by
  unfold upCode upRes
  by_cases hk : keys c l ≤ k
  · rw [if_pos hk, if_pos hk]
    exact (supd_no p F c l L k w h k0 k1 d d0 d1 hk).mono (fun e w' h2 => ⟨h2.1, F, h.up h2.2, Kept.of_below h2.2, fun q hq => .inl hq⟩)
  rw [if_neg hk, if_neg hk]
  have hr := h.1
  have h3 : c.md = 1 ∨ c.md = 2 ∨ c.md = 3 := by have := hr.2.2.2.2.2.2; omega
  rcases h3 with h3 | h3 | h3
  · rw [if_neg (by omega), if_neg (by omega)]; exact supd_lin p F c l L k w h k0 k1 d d0 d1 (by omega) h3
  · rw [if_pos h3, if_pos h3]; exact supd_con p F c l L k w h k0 k1 d d0 d1 (by omega) h3
  · rw [if_neg (by omega), if_neg (by omega)]; exact supd_med p F c l L k w h k0 k1 d d0 d1 (by omega) h3
set_option maxRecDepth 100000 in
set_option maxHeartbeats 4000000 in
theorem salike_nil (p : Addr) (F : Nat → Prop) (c : Cfg) (l : Int) (L : List (List Int)) (w : World) (h : SK w p F c l L) :
    Calls Tryz.prog 67 #[.pointer (some p), .pointer none] w fun e w' => e = .returned (.bool false) ∧ Below w.heap.size w w' := by
  obtain ⟨hr, hok, hl0, hl1, b, gp, G, rfl, hb, hg, hGb, rfl⟩ := h
  have c1 := grd_cell hb 1 (v := .int .i64 c.bt) rfl
  have c2 := grd_cell hb 2 (v := .int .i64 c.rw) rfl
  have c3 := grd_cell hb 3 (v := .int .i64 c.wd) rfl
  have c4 := grd_cell hb 4 (v := .int .i64 c.md) rfl
  have c5 := grd_cell hb 5 (v := .int .u64 c.sd) rfl
  have c6 := grd_cell hb 6 (v := .int .i64 l) rfl
  clear hb hg
  go_enter Tryz.func67, Tryz.ntmps67
  go_wp2
  go_quiet (fail)
  all_goals go_wp2
  all_goals go_ret
  all_goals exact ⟨rfl, by (repeat' (first | (with_reducible exact Below.refl _ _) | (with_reducible assumption) | (with_reducible refine below_over ?_ _ _) | (with_reducible refine Lw.below_alloc ?_ _) | (with_reducible refine Below.drew ?_) | (with_reducible refine below_drewN ?_ _) | (with_reducible refine Below.setCell ?_ ?_ _) | go_size))⟩
set_option maxRecDepth 100000 in
set_option maxHeartbeats 4000000 in
theorem salike_yes (p : Addr) (F : Nat → Prop) (c : Cfg) (l : Int) (L : List (List Int)) (q : Addr) (G : Nat → Prop) (M : List (List Int)) (w : World) (h : SK w p F c l L) (g : SK w q G c l M) :
    Calls Tryz.prog 67 #[.pointer (some p), .pointer (some q)] w fun e w' => e = .returned (.bool true) ∧ Below w.heap.size w w' := by
  obtain ⟨hr, hok, hl0, hl1, b, gp, G, rfl, hb, hg, hGb, rfl⟩ := h
  obtain ⟨hr2, hok2, gl0, gl1, b2, gp2, G2, rfl, hb2, hg2, hGb2, rfl⟩ := g
  have c1 := grd_cell hb 1 (v := .int .i64 c.bt) rfl
  have c2 := grd_cell hb 2 (v := .int .i64 c.rw) rfl
  have c3 := grd_cell hb 3 (v := .int .i64 c.wd) rfl
  have c4 := grd_cell hb 4 (v := .int .i64 c.md) rfl
  have c5 := grd_cell hb 5 (v := .int .u64 c.sd) rfl
  have c6 := grd_cell hb 6 (v := .int .i64 l) rfl
  have q1 := grd_cell hb2 1 (v := .int .i64 c.bt) rfl
  have q2 := grd_cell hb2 2 (v := .int .i64 c.rw) rfl
  have q3 := grd_cell hb2 3 (v := .int .i64 c.wd) rfl
  have q4 := grd_cell hb2 4 (v := .int .i64 c.md) rfl
  have q5 := grd_cell hb2 5 (v := .int .u64 c.sd) rfl
  have q6 := grd_cell hb2 6 (v := .int .i64 l) rfl
  clear hb hg hb2 hg2
  go_enter Tryz.func67, Tryz.ntmps67
  go_wp2
  go_quiet (fail)
  all_goals go_wp2
  all_goals go_ret
  all_goals exact ⟨rfl, by (repeat' (first | (with_reducible exact Below.refl _ _) | (with_reducible assumption) | (with_reducible refine below_over ?_ _ _) | (with_reducible refine Lw.below_alloc ?_ _) | (with_reducible refine Below.drew ?_) | (with_reducible refine below_drewN ?_ _) | (with_reducible refine Below.setCell ?_ ?_ _) | go_size))⟩
set_option maxRecDepth 100000 in
set_option maxHeartbeats 4000000 in
theorem salike_n0 (p : Addr) (F : Nat → Prop) (c : Cfg) (l : Int) (L : List (List Int)) (q : Addr) (G : Nat → Prop) (c' : Cfg) (l' : Int) (M : List (List Int)) (w : World) (h : SK w p F c l L) (g : SK w q G c' l' M)  (e0 : (c'.bt == c.bt) = false) :
    Calls Tryz.prog 67 #[.pointer (some p), .pointer (some q)] w fun e w' => e = .returned (.bool false) ∧ Below w.heap.size w w' := by
  obtain ⟨hr, hok, hl0, hl1, b, gp, G, rfl, hb, hg, hGb, rfl⟩ := h
  obtain ⟨hr2, hok2, gl0, gl1, b2, gp2, G2, rfl, hb2, hg2, hGb2, rfl⟩ := g
  have c1 := grd_cell hb 1 (v := .int .i64 c.bt) rfl
  have c2 := grd_cell hb 2 (v := .int .i64 c.rw) rfl
  have c3 := grd_cell hb 3 (v := .int .i64 c.wd) rfl
  have c4 := grd_cell hb 4 (v := .int .i64 c.md) rfl
  have c5 := grd_cell hb 5 (v := .int .u64 c.sd) rfl
  have c6 := grd_cell hb 6 (v := .int .i64 l) rfl
  have q1 := grd_cell hb2 1 (v := .int .i64 c'.bt) rfl
  have q2 := grd_cell hb2 2 (v := .int .i64 c'.rw) rfl
  have q3 := grd_cell hb2 3 (v := .int .i64 c'.wd) rfl
  have q4 := grd_cell hb2 4 (v := .int .i64 c'.md) rfl
  have q5 := grd_cell hb2 5 (v := .int .u64 c'.sd) rfl
  have q6 := grd_cell hb2 6 (v := .int .i64 l') rfl
  clear hb hg hb2 hg2
  go_enter Tryz.func67, Tryz.ntmps67
  go_wp2
  go_quiet (fail)
  all_goals go_wp2
  all_goals go_ret
  all_goals exact ⟨rfl, by (repeat' (first | (with_reducible exact Below.refl _ _) | (with_reducible assumption) | (with_reducible refine below_over ?_ _ _) | (with_reducible refine Lw.below_alloc ?_ _) | (with_reducible refine Below.drew ?_) | (with_reducible refine below_drewN ?_ _) | (with_reducible refine Below.setCell ?_ ?_ _) | go_size))⟩
set_option maxRecDepth 100000 in
set_option maxHeartbeats 4000000 in
theorem salike_n1 (p : Addr) (F : Nat → Prop) (c : Cfg) (l : Int) (L : List (List Int)) (q : Addr) (G : Nat → Prop) (c' : Cfg) (l' : Int) (M : List (List Int)) (w : World) (h : SK w p F c l L) (g : SK w q G c' l' M) (e0 : c'.bt = c.bt) (e1 : (c'.rw == c.rw) = false) :
    Calls Tryz.prog 67 #[.pointer (some p), .pointer (some q)] w fun e w' => e = .returned (.bool false) ∧ Below w.heap.size w w' := by
  obtain ⟨hr, hok, hl0, hl1, b, gp, G, rfl, hb, hg, hGb, rfl⟩ := h
  obtain ⟨hr2, hok2, gl0, gl1, b2, gp2, G2, rfl, hb2, hg2, hGb2, rfl⟩ := g
  have c1 := grd_cell hb 1 (v := .int .i64 c.bt) rfl
  have c2 := grd_cell hb 2 (v := .int .i64 c.rw) rfl
  have c3 := grd_cell hb 3 (v := .int .i64 c.wd) rfl
  have c4 := grd_cell hb 4 (v := .int .i64 c.md) rfl
  have c5 := grd_cell hb 5 (v := .int .u64 c.sd) rfl
  have c6 := grd_cell hb 6 (v := .int .i64 l) rfl
  have q1 := grd_cell hb2 1 (v := .int .i64 c'.bt) rfl
  have q2 := grd_cell hb2 2 (v := .int .i64 c'.rw) rfl
  have q3 := grd_cell hb2 3 (v := .int .i64 c'.wd) rfl
  have q4 := grd_cell hb2 4 (v := .int .i64 c'.md) rfl
  have q5 := grd_cell hb2 5 (v := .int .u64 c'.sd) rfl
  have q6 := grd_cell hb2 6 (v := .int .i64 l') rfl
  clear hb hg hb2 hg2
  go_enter Tryz.func67, Tryz.ntmps67
  go_wp2
  go_quiet (fail)
  all_goals go_wp2
  all_goals go_ret
  all_goals exact ⟨rfl, by (repeat' (first | (with_reducible exact Below.refl _ _) | (with_reducible assumption) | (with_reducible refine below_over ?_ _ _) | (with_reducible refine Lw.below_alloc ?_ _) | (with_reducible refine Below.drew ?_) | (with_reducible refine below_drewN ?_ _) | (with_reducible refine Below.setCell ?_ ?_ _) | go_size))⟩
set_option maxRecDepth 100000 in
set_option maxHeartbeats 4000000 in
theorem salike_n2 (p : Addr) (F : Nat → Prop) (c : Cfg) (l : Int) (L : List (List Int)) (q : Addr) (G : Nat → Prop) (c' : Cfg) (l' : Int) (M : List (List Int)) (w : World) (h : SK w p F c l L) (g : SK w q G c' l' M) (e0 : c'.bt = c.bt) (e1 : c'.rw = c.rw) (e2 : (c'.wd == c.wd) = false) :
    Calls Tryz.prog 67 #[.pointer (some p), .pointer (some q)] w fun e w' => e = .returned (.bool false) ∧ Below w.heap.size w w' := by
  obtain ⟨hr, hok, hl0, hl1, b, gp, G, rfl, hb, hg, hGb, rfl⟩ := h
  obtain ⟨hr2, hok2, gl0, gl1, b2, gp2, G2, rfl, hb2, hg2, hGb2, rfl⟩ := g
  have c1 := grd_cell hb 1 (v := .int .i64 c.bt) rfl
  have c2 := grd_cell hb 2 (v := .int .i64 c.rw) rfl
  have c3 := grd_cell hb 3 (v := .int .i64 c.wd) rfl
  have c4 := grd_cell hb 4 (v := .int .i64 c.md) rfl
  have c5 := grd_cell hb 5 (v := .int .u64 c.sd) rfl
  have c6 := grd_cell hb 6 (v := .int .i64 l) rfl
  have q1 := grd_cell hb2 1 (v := .int .i64 c'.bt) rfl
  have q2 := grd_cell hb2 2 (v := .int .i64 c'.rw) rfl
  have q3 := grd_cell hb2 3 (v := .int .i64 c'.wd) rfl
  have q4 := grd_cell hb2 4 (v := .int .i64 c'.md) rfl
  have q5 := grd_cell hb2 5 (v := .int .u64 c'.sd) rfl
  have q6 := grd_cell hb2 6 (v := .int .i64 l') rfl
  clear hb hg hb2 hg2
  go_enter Tryz.func67, Tryz.ntmps67
  go_wp2
  go_quiet (fail)
  all_goals go_wp2
  all_goals go_ret
  all_goals exact ⟨rfl, by (repeat' (first | (with_reducible exact Below.refl _ _) | (with_reducible assumption) | (with_reducible refine below_over ?_ _ _) | (with_reducible refine Lw.below_alloc ?_ _) | (with_reducible refine Below.drew ?_) | (with_reducible refine below_drewN ?_ _) | (with_reducible refine Below.setCell ?_ ?_ _) | go_size))⟩
set_option maxRecDepth 100000 in
set_option maxHeartbeats 4000000 in
theorem salike_n3 (p : Addr) (F : Nat → Prop) (c : Cfg) (l : Int) (L : List (List Int)) (q : Addr) (G : Nat → Prop) (c' : Cfg) (l' : Int) (M : List (List Int)) (w : World) (h : SK w p F c l L) (g : SK w q G c' l' M) (e0 : c'.bt = c.bt) (e1 : c'.rw = c.rw) (e2 : c'.wd = c.wd) (e3 : (c'.md == c.md) = false) :
    Calls Tryz.prog 67 #[.pointer (some p), .pointer (some q)] w fun e w' => e = .returned (.bool false) ∧ Below w.heap.size w w' := by
  obtain ⟨hr, hok, hl0, hl1, b, gp, G, rfl, hb, hg, hGb, rfl⟩ := h
  obtain ⟨hr2, hok2, gl0, gl1, b2, gp2, G2, rfl, hb2, hg2, hGb2, rfl⟩ := g
  have c1 := grd_cell hb 1 (v := .int .i64 c.bt) rfl
  have c2 := grd_cell hb 2 (v := .int .i64 c.rw) rfl
  have c3 := grd_cell hb 3 (v := .int .i64 c.wd) rfl
  have c4 := grd_cell hb 4 (v := .int .i64 c.md) rfl
  have c5 := grd_cell hb 5 (v := .int .u64 c.sd) rfl
  have c6 := grd_cell hb 6 (v := .int .i64 l) rfl
  have q1 := grd_cell hb2 1 (v := .int .i64 c'.bt) rfl
  have q2 := grd_cell hb2 2 (v := .int .i64 c'.rw) rfl
  have q3 := grd_cell hb2 3 (v := .int .i64 c'.wd) rfl
  have q4 := grd_cell hb2 4 (v := .int .i64 c'.md) rfl
  have q5 := grd_cell hb2 5 (v := .int .u64 c'.sd) rfl
  have q6 := grd_cell hb2 6 (v := .int .i64 l') rfl
  clear hb hg hb2 hg2
  go_enter Tryz.func67, Tryz.ntmps67
  go_wp2
  go_quiet (fail)
  all_goals go_wp2
  all_goals go_ret
  all_goals exact ⟨rfl, by (repeat' (first | (with_reducible exact Below.refl _ _) | (with_reducible assumption) | (with_reducible refine below_over ?_ _ _) | (with_reducible refine Lw.below_alloc ?_ _) | (with_reducible refine Below.drew ?_) | (with_reducible refine below_drewN ?_ _) | (with_reducible refine Below.setCell ?_ ?_ _) | go_size))⟩
set_option maxRecDepth 100000 in
set_option maxHeartbeats 4000000 in
theorem salike_n4 (p : Addr) (F : Nat → Prop) (c : Cfg) (l : Int) (L : List (List Int)) (q : Addr) (G : Nat → Prop) (c' : Cfg) (l' : Int) (M : List (List Int)) (w : World) (h : SK w p F c l L) (g : SK w q G c' l' M) (e0 : c'.bt = c.bt) (e1 : c'.rw = c.rw) (e2 : c'.wd = c.wd) (e3 : c'.md = c.md) (e4 : (c'.sd == c.sd) = false) :
    Calls Tryz.prog 67 #[.pointer (some p), .pointer (some q)] w fun e w' => e = .returned (.bool false) ∧ Below w.heap.size w w' := by
  obtain ⟨hr, hok, hl0, hl1, b, gp, G, rfl, hb, hg, hGb, rfl⟩ := h
  obtain ⟨hr2, hok2, gl0, gl1, b2, gp2, G2, rfl, hb2, hg2, hGb2, rfl⟩ := g
  have c1 := grd_cell hb 1 (v := .int .i64 c.bt) rfl
  have c2 := grd_cell hb 2 (v := .int .i64 c.rw) rfl
  have c3 := grd_cell hb 3 (v := .int .i64 c.wd) rfl
  have c4 := grd_cell hb 4 (v := .int .i64 c.md) rfl
  have c5 := grd_cell hb 5 (v := .int .u64 c.sd) rfl
  have c6 := grd_cell hb 6 (v := .int .i64 l) rfl
  have q1 := grd_cell hb2 1 (v := .int .i64 c'.bt) rfl
  have q2 := grd_cell hb2 2 (v := .int .i64 c'.rw) rfl
  have q3 := grd_cell hb2 3 (v := .int .i64 c'.wd) rfl
  have q4 := grd_cell hb2 4 (v := .int .i64 c'.md) rfl
  have q5 := grd_cell hb2 5 (v := .int .u64 c'.sd) rfl
  have q6 := grd_cell hb2 6 (v := .int .i64 l') rfl
  clear hb hg hb2 hg2
  go_enter Tryz.func67, Tryz.ntmps67
  go_wp2
  go_quiet (fail)
  all_goals go_wp2
  all_goals go_ret
  all_goals exact ⟨rfl, by (repeat' (first | (with_reducible exact Below.refl _ _) | (with_reducible assumption) | (with_reducible refine below_over ?_ _ _) | (with_reducible refine Lw.below_alloc ?_ _) | (with_reducible refine Below.drew ?_) | (with_reducible refine below_drewN ?_ _) | (with_reducible refine Below.setCell ?_ ?_ _) | go_size))⟩
set_option maxRecDepth 100000 in
set_option maxHeartbeats 4000000 in
theorem salike_n5 (p : Addr) (F : Nat → Prop) (c : Cfg) (l : Int) (L : List (List Int)) (q : Addr) (G : Nat → Prop) (c' : Cfg) (l' : Int) (M : List (List Int)) (w : World) (h : SK w p F c l L) (g : SK w q G c' l' M) (e0 : c'.bt = c.bt) (e1 : c'.rw = c.rw) (e2 : c'.wd = c.wd) (e3 : c'.md = c.md) (e4 : c'.sd = c.sd) (e5 : (l' == l) = false) :
    Calls Tryz.prog 67 #[.pointer (some p), .pointer (some q)] w fun e w' => e = .returned (.bool false) ∧ Below w.heap.size w w' := by
  obtain ⟨hr, hok, hl0, hl1, b, gp, G, rfl, hb, hg, hGb, rfl⟩ := h
  obtain ⟨hr2, hok2, gl0, gl1, b2, gp2, G2, rfl, hb2, hg2, hGb2, rfl⟩ := g
  have c1 := grd_cell hb 1 (v := .int .i64 c.bt) rfl
  have c2 := grd_cell hb 2 (v := .int .i64 c.rw) rfl
  have c3 := grd_cell hb 3 (v := .int .i64 c.wd) rfl
  have c4 := grd_cell hb 4 (v := .int .i64 c.md) rfl
  have c5 := grd_cell hb 5 (v := .int .u64 c.sd) rfl
  have c6 := grd_cell hb 6 (v := .int .i64 l) rfl
  have q1 := grd_cell hb2 1 (v := .int .i64 c'.bt) rfl
  have q2 := grd_cell hb2 2 (v := .int .i64 c'.rw) rfl
  have q3 := grd_cell hb2 3 (v := .int .i64 c'.wd) rfl
  have q4 := grd_cell hb2 4 (v := .int .i64 c'.md) rfl
  have q5 := grd_cell hb2 5 (v := .int .u64 c'.sd) rfl
  have q6 := grd_cell hb2 6 (v := .int .i64 l') rfl
  clear hb hg hb2 hg2
  go_enter Tryz.func67, Tryz.ntmps67
  go_wp2
  go_quiet (fail)
  all_goals go_wp2
  all_goals go_ret
  all_goals exact ⟨rfl, by (repeat' (first | (with_reducible exact Below.refl _ _) | (with_reducible assumption) | (with_reducible refine below_over ?_ _ _) | (with_reducible refine Lw.below_alloc ?_ _) | (with_reducible refine Below.drew ?_) | (with_reducible refine below_drewN ?_ _) | (with_reducible refine Below.setCell ?_ ?_ _) | go_size))⟩
theorem salike_any (p : Addr) (F : Nat → Prop) (c : Cfg) (l : Int) (L : List (List Int)) (q : Addr) (G : Nat → Prop) (c' : Cfg) (l' : Int) (M : List (List Int)) (w : World) (h : SK w p F c l L) (g : SK w q G c' l' M) :
    Calls Tryz.prog 67 #[.pointer (some p), .pointer (some q)] w fun e w' => e = .returned (.bool (decide (cfgE c c' = true ∧ l = l'))) ∧ Below w.heap.size w w' := by
  have no : ¬ (c.bt = c'.bt ∧ c.rw = c'.rw ∧ c.wd = c'.wd ∧ c.md = c'.md ∧ c.sd = c'.sd ∧ l = l') → decide (cfgE c c' = true ∧ l = l') = false := by
    intro hn
    refine decide_eq_false ?_
    rintro ⟨h1, h2⟩
    have h3 := of_decide_eq_true h1
    exact hn ⟨h3.1, h3.2.1, h3.2.2.1, h3.2.2.2.1, h3.2.2.2.2, h2⟩
  have bf : ∀ {a b : Int}, ¬ a = b → (a == b) = false := fun h => by simp [h]
  by_cases e0 : c'.bt = c.bt
  · by_cases e1 : c'.rw = c.rw
    · by_cases e2 : c'.wd = c.wd
      · by_cases e3 : c'.md = c.md
        · by_cases e4 : c'.sd = c.sd
          · by_cases e5 : l' = l
            · have e : c' = c := by cases c; cases c'; simp_all
              subst e e5
              have he : decide (cfgE c' c' = true ∧ l' = l') = true := by unfold cfgE; simp
              rw [he]
              exact salike_yes p F c' l' L q G M w h g
            · rw [no (fun h => e5 h.2.2.2.2.2.symm)]
              exact salike_n5 p F c l L q G c' l' M w h g e0 e1 e2 e3 e4 (bf e5)
          · rw [no (fun h => e4 h.2.2.2.2.1.symm)]
            exact salike_n4 p F c l L q G c' l' M w h g e0 e1 e2 e3 (bf e4)
        · rw [no (fun h => e3 h.2.2.2.1.symm)]
          exact salike_n3 p F c l L q G c' l' M w h g e0 e1 e2 (bf e3)
      · rw [no (fun h => e2 h.2.2.1.symm)]
        exact salike_n2 p F c l L q G c' l' M w h g e0 e1 (bf e2)
    · rw [no (fun h => e1 h.2.1.symm)]
      exact salike_n1 p F c l L q G c' l' M w h g e0 (bf e1)
  · rw [no (fun h => e0 h.1.symm)]
    exact salike_n0 p F c l L q G c' l' M w h g (bf e0)
theorem sk_apart {w : World} {gp : Addr} {G : Nat → Prop} {m n : Nat} {L : List (List Int)} (h : PG w gp G m n L) (hmn : 0 < m * n) {b : Nat} {x : Addr} {vs : List Value} (hv : 3 ≤ vs.length) (hb : w.heap[b]? = some (.cells (Value.pointer (some x) :: vs).toArray 119 (0, 0))) : ¬ G b := by
  obtain ⟨hd, b1, g1, cap, rfl, h1, hm, -, -, -, rfl⟩ := h
  rintro (rfl | rfl)
  · rw [h1] at hb
    injection hb with hb
    injection hb with hb
    have := congrArg Array.size hb
    simp at this
    omega
  · obtain ⟨us, e, h2, h3⟩ := hm
    rw [h2] at hb
    injection hb with hb
    injection hb with hb
    have hl : 0 < L.flatten.length := by rw [flat_dims hd]; exact hmn
    have h4 := h3 0 _ (List.getElem?_eq_getElem hl)
    rw [hb] at h4
    simp at h4
set_option maxRecDepth 100000 in
theorem smerge_nil (p : Addr) (F : Nat → Prop) (c : Cfg) (l : Int) (L : List (List Int)) (w : World) (h : SK w p F c l L) :
    Calls Tryz.prog 43 #[.pointer (some p), .pointer none] w fun e w' => e = .returned (.int .i64 5) ∧ Below w.heap.size w w' := by
  have CA := Lib.hid (salike_nil p F c l L w h)
  clear h
  go_enter Tryz.func43, Tryz.ntmps43
  go_wp2_with (go_at_call 67; (with_reducible refine CA.out.mono ?_); rintro e w1 ⟨rfl, hb1⟩; have HB1 := Lib.hid hb1; clear hb1)
  go_ret
  exact ⟨rfl, HB1.out⟩
set_option maxRecDepth 100000 in
theorem smerge_no (p : Addr) (F : Nat → Prop) (c : Cfg) (l : Int) (L : List (List Int)) (q : Addr) (G : Nat → Prop) (c' : Cfg) (l' : Int) (M : List (List Int)) (w : World) (h : SK w p F c l L) (g : SK w q G c' l' M) (hn : ¬ (cfgE c c' = true ∧ l = l')) :
    Calls Tryz.prog 43 #[.pointer (some p), .pointer (some q)] w fun e w' => e = .returned (.int .i64 5) ∧ Below w.heap.size w w' := by
  have CA := Lib.hid (salike_any p F c l L q G c' l' M w h g)
  rw [decide_eq_false hn] at CA
  clear h g hn
  go_enter Tryz.func43, Tryz.ntmps43
  go_wp2_with (go_at_call 67; (with_reducible refine CA.out.mono ?_); rintro e w1 ⟨rfl, hb1⟩; have HB1 := Lib.hid hb1; clear hb1)
  go_ret
  exact ⟨rfl, HB1.out⟩
set_option maxRecDepth 100000 in
set_option maxHeartbeats 4000000 in
theorem smerge_yes (p : Addr) (F : Nat → Prop) (c : Cfg) (l : Int) (L : List (List Int)) (q : Addr) (G' : Nat → Prop) (M : List (List Int)) (w : World) (h : SK w p F c l L) (g : SK w q G' c l M) :
    Calls Tryz.prog 43 #[.pointer (some p), .pointer (some q)] w fun e w' => e = .returned (.int .i64 (jcode (1) (rws c) (wds c) (rws c) (wds c) L M)) ∧ ∃ F', SK w' p F' c l (jres (1) (rws c) (wds c) (rws c) (wds c) L M) ∧ Kept F w w' ∧ (∀ k, F' k → F k ∨ w.heap.size ≤ k) := by
  have CA := Lib.hid (salike_yes p F c l L q G' M w h g)
  obtain ⟨hr, hok, hl0, hl1, b, gp, G, rfl, hb, hg, hGb, rfl⟩ := h
  obtain ⟨hr2, hok2, gl0, gl1, b2, gp2, G2, rfl, hb2, hg2, hGb2, rfl⟩ := g
  have hbl := size_of_heap hb
  have hbl2 := size_of_heap hb2
  have c0w := grd_cell hb 0 (v := .pointer (some gp)) rfl
  have c1w := grd_cell hb2 0 (v := .pointer (some gp2)) rfl
  have hap : ¬ G b2 := sk_apart hg (Nat.mul_pos (rws_bd hr).1 (wds_bd hr).1) (vs := [_, _, _, _, _, _]) (by simp) hb2
  have hap : ¬ G b2 := sk_apart hg (Nat.mul_pos (rws_bd hr).1 (wds_bd hr).1) (vs := [_, _, _, _, _, _]) (by simp) hb2
  have TL : Hid (∀ w', Below w.heap.size w w' → Calls Tryz.prog 68 #[.pointer (some gp), .pointer (some gp2)] w' fun e w2 => e = .returned (.int .i64 (jcode (1) (rws c) (wds c) (rws c) (wds c) L M)) ∧ ∃ G6, PG w2 gp G6 (rws c) (wds c) (jres (1) (rws c) (wds c) (rws c) (wds c) L M) ∧ Kept G w w2 ∧ (∀ q, G6 q → G q ∨ w.heap.size ≤ q)) := Lib.hid (fun w' hb2 => (plus_all gp gp2 G G2 _ _ _ _ L M w' (pg_up hg hb2) (pg_up hg2 hb2)).mono (fun e w2 ⟨e1, G', h1, h2, h3⟩ => ⟨e1, G', h1, (Kept.of_below hb2).trans h2 (fun q hq h => h), fun q hq => (h3 q hq).elim .inl (fun h => .inr (Nat.le_trans hb2.size h))⟩))
  have HT : Hid (∀ w' G', PG w' gp G' (rws c) (wds c) (jres (1) (rws c) (wds c) (rws c) (wds c) L M) → Kept G w w' → (∀ k, G' k → G k ∨ w.heap.size ≤ k) → ∃ F', SK w' ⟨b, 0, none⟩ F' c l (jres (1) (rws c) (wds c) (rws c) (wds c) L M) ∧ Kept (fun k => k = b ∨ G k) w w' ∧ (∀ q, F' q → (q = b ∨ G q) ∨ w.heap.size ≤ q)) := Lib.hid (fun w' G' h1 h2 h3 => sk_turn hr hok hl0 hl1 hb hGb h1 h2 h3)
  obtain ⟨V, hV⟩ : ∃ V, jcode (1) (rws c) (wds c) (rws c) (wds c) L M = V := ⟨_, rfl⟩
  obtain ⟨R, hR⟩ : ∃ R, jres (1) (rws c) (wds c) (rws c) (wds c) L M = R := ⟨_, rfl⟩
  rw [hV, hR] at TL
  rw [hR] at HT
  rw [hV, hR]
  clear hb hg hb2 hg2 hV hR
  go_enter Tryz.func43, Tryz.ntmps43
  go_wp2_with (first
    | (go_at_call 67; (with_reducible refine CA.out.mono ?_); rintro e w1 ⟨rfl, hb1⟩; have HB1 := Lib.hid hb1; clear hb1))
  have c0 := cell_up c0w HB1.out
  have c1 := cell_up c1w HB1.out
  have TL1 : Hid (∀ w', Below w1.heap.size w1 w' → _) := Lib.hid (fun w' hb2 => TL.out w' (below_call HB1.out hb2 (Nat.le_refl _)))
  go_region_held3 (fun w' => w'.cell? ⟨b, 0, none⟩ = some (.pointer (some gp)) ∧ w'.cell? ⟨b2, 0, none⟩ = some (.pointer (some gp2))) (first | (refine ⟨?_, ?_⟩ <;> (first | (with_reducible assumption) | (with_reducible refine cell_up c0 ?_) | (with_reducible refine cell_up c1 ?_)) <;> (repeat' (first | (with_reducible exact Below.refl _ _) | (with_reducible assumption) | (with_reducible refine below_over ?_ _ _) | (with_reducible refine Lw.below_alloc ?_ _) | (with_reducible refine Below.drew ?_) | (with_reducible refine below_drewN ?_ _) | (with_reducible refine Below.setCell ?_ ?_ _) | go_size)))) (first
    | (go_at_call 68; (with_reducible refine (TL1.out _ (by (repeat' (first | (with_reducible exact Below.refl _ _) | (with_reducible assumption) | (with_reducible refine below_over ?_ _ _) | (with_reducible refine Lw.below_alloc ?_ _) | (with_reducible refine Below.drew ?_) | (with_reducible refine below_drewN ?_ _) | (with_reducible refine Below.setCell ?_ ?_ _) | go_size)))).mono ?_); rintro e w6 ⟨rfl, G6, hp6, hk6, hf6⟩; have HP6 := Lib.hid hp6; have HK6 := Lib.hid hk6; have HF6 := Lib.hid hf6; have x0 : w6.cell? ⟨b, 0, none⟩ = some (.pointer (some gp)) := hk6.cell c0w hGb; have x1 : w6.cell? ⟨b2, 0, none⟩ = some (.pointer (some gp2)) := hk6.cell c1w hap; clear hp6 hk6 hf6))
  all_goals go_wp2
  all_goals go_ret
  all_goals exact ⟨rfl, HT.out _ _ HP6.out HK6.out HF6.out⟩
theorem smerge_any (p : Addr) (F : Nat → Prop) (c : Cfg) (l : Int) (L : List (List Int)) (q : Addr) (G : Nat → Prop) (c' : Cfg) (l' : Int) (M : List (List Int)) (w : World) (h : SK w p F c l L) (g : SK w q G c' l' M) :
    Calls Tryz.prog 43 #[.pointer (some p), .pointer (some q)] w fun e w' => e = .returned (.int .i64 (mgCode (1) c c' l l' L M)) ∧ ∃ F', SK w' p F' c l (mgRes (1) c c' l l' L M) ∧ Kept F w w' ∧ (∀ k, F' k → F k ∨ w.heap.size ≤ k) := by
  unfold mgCode mgRes
  by_cases hn : cfgE c c' = true ∧ l = l'
  · rw [if_pos hn, if_pos hn]
    have hc := of_decide_eq_true hn.1
    have e : c = c' := by cases c; cases c'; simp_all
    have e2 := hn.2
    subst e e2
    rw [if_neg (by omega), if_neg (by omega)]
    exact smerge_yes p F c l L q G M w h g
  · rw [if_neg hn, if_neg hn]
    exact (smerge_no p F c l L q G c' l' M w h g hn).mono (fun e w' h2 => ⟨h2.1, F, h.up h2.2, Kept.of_below h2.2, fun q hq => .inl hq⟩)
set_option maxRecDepth 100000 in
theorem ssub_nil (p : Addr) (F : Nat → Prop) (c : Cfg) (l : Int) (L : List (List Int)) (w : World) (h : SK w p F c l L) :
    Calls Tryz.prog 47 #[.pointer (some p), .pointer none] w fun e w' => e = .returned (.int .i64 5) ∧ Below w.heap.size w w' := by
  have CA := Lib.hid (salike_nil p F c l L w h)
  clear h
  go_enter Tryz.func47, Tryz.ntmps47
  go_wp2_with (go_at_call 67; (with_reducible refine CA.out.mono ?_); rintro e w1 ⟨rfl, hb1⟩; have HB1 := Lib.hid hb1; clear hb1)
  go_ret
  exact ⟨rfl, HB1.out⟩
set_option maxRecDepth 100000 in
theorem ssub_no (p : Addr) (F : Nat → Prop) (c : Cfg) (l : Int) (L : List (List Int)) (q : Addr) (G : Nat → Prop) (c' : Cfg) (l' : Int) (M : List (List Int)) (w : World) (h : SK w p F c l L) (g : SK w q G c' l' M) (hn : ¬ (cfgE c c' = true ∧ l = l')) :
    Calls Tryz.prog 47 #[.pointer (some p), .pointer (some q)] w fun e w' => e = .returned (.int .i64 5) ∧ Below w.heap.size w w' := by
  have CA := Lib.hid (salike_any p F c l L q G c' l' M w h g)
  rw [decide_eq_false hn] at CA
  clear h g hn
  go_enter Tryz.func47, Tryz.ntmps47
  go_wp2_with (go_at_call 67; (with_reducible refine CA.out.mono ?_); rintro e w1 ⟨rfl, hb1⟩; have HB1 := Lib.hid hb1; clear hb1)
  go_ret
  exact ⟨rfl, HB1.out⟩
set_option maxRecDepth 100000 in
set_option maxHeartbeats 4000000 in
theorem ssub_lin (p : Addr) (F : Nat → Prop) (c : Cfg) (l : Int) (L : List (List Int)) (q : Addr) (G' : Nat → Prop) (M : List (List Int)) (w : World) (h : SK w p F c l L) (g : SK w q G' c l M) (hm : c.md = 1) :
    Calls Tryz.prog 47 #[.pointer (some p), .pointer (some q)] w fun e w' => e = .returned (.int .i64 (jcode (-1) (rws c) (wds c) (rws c) (wds c) L M)) ∧ ∃ F', SK w' p F' c l (jres (-1) (rws c) (wds c) (rws c) (wds c) L M) ∧ Kept F w w' ∧ (∀ k, F' k → F k ∨ w.heap.size ≤ k) := by
  have CA := Lib.hid (salike_yes p F c l L q G' M w h g)
  have WY : Hid (∀ w', Below w.heap.size w w' → Calls Tryz.prog 75 #[.pointer (some p)] w' fun e w2 => e = .returned (.agg #[.func (.func 107) #[] #[], .func (.func 105) #[] #[], .bool true]) ∧ Below w'.heap.size w' w2) := Lib.hid (fun w' hb2 => way_lin _ _ c l L w' (h.up hb2) hm)
  have hfd : ∀ w : World, (Instr.field 142 (.agg #[.func (.func 107) #[] #[], .func (.func 105) #[] #[], .bool true]) 2).run Tryz.prog w = .ok (.bool true) w := fun _ => by kernel_rfl
  obtain ⟨hr, hok, hl0, hl1, b, gp, G, rfl, hb, hg, hGb, rfl⟩ := h
  obtain ⟨hr2, hok2, gl0, gl1, b2, gp2, G2, rfl, hb2, hg2, hGb2, rfl⟩ := g
  have hbl := size_of_heap hb
  have hbl2 := size_of_heap hb2
  have c0w := grd_cell hb 0 (v := .pointer (some gp)) rfl
  have c1w := grd_cell hb2 0 (v := .pointer (some gp2)) rfl
  have hap : ¬ G b2 := sk_apart hg (Nat.mul_pos (rws_bd hr).1 (wds_bd hr).1) (vs := [_, _, _, _, _, _]) (by simp) hb2
  have hap : ¬ G b2 := sk_apart hg (Nat.mul_pos (rws_bd hr).1 (wds_bd hr).1) (vs := [_, _, _, _, _, _]) (by simp) hb2
  have TL : Hid (∀ w', Below w.heap.size w w' → Calls Tryz.prog 76 #[.pointer (some gp), .pointer (some gp2)] w' fun e w2 => e = .returned (.int .i64 (jcode (-1) (rws c) (wds c) (rws c) (wds c) L M)) ∧ ∃ G6, PG w2 gp G6 (rws c) (wds c) (jres (-1) (rws c) (wds c) (rws c) (wds c) L M) ∧ Kept G w w2 ∧ (∀ q, G6 q → G q ∨ w.heap.size ≤ q)) := Lib.hid (fun w' hb2 => (minus_all gp gp2 G G2 _ _ _ _ L M w' (pg_up hg hb2) (pg_up hg2 hb2)).mono (fun e w2 ⟨e1, G', h1, h2, h3⟩ => ⟨e1, G', h1, (Kept.of_below hb2).trans h2 (fun q hq h => h), fun q hq => (h3 q hq).elim .inl (fun h => .inr (Nat.le_trans hb2.size h))⟩))
  have HT : Hid (∀ w' G', PG w' gp G' (rws c) (wds c) (jres (-1) (rws c) (wds c) (rws c) (wds c) L M) → Kept G w w' → (∀ k, G' k → G k ∨ w.heap.size ≤ k) → ∃ F', SK w' ⟨b, 0, none⟩ F' c l (jres (-1) (rws c) (wds c) (rws c) (wds c) L M) ∧ Kept (fun k => k = b ∨ G k) w w' ∧ (∀ q, F' q → (q = b ∨ G q) ∨ w.heap.size ≤ q)) := Lib.hid (fun w' G' h1 h2 h3 => sk_turn hr hok hl0 hl1 hb hGb h1 h2 h3)
  obtain ⟨V, hV⟩ : ∃ V, jcode (-1) (rws c) (wds c) (rws c) (wds c) L M = V := ⟨_, rfl⟩
  obtain ⟨R, hR⟩ : ∃ R, jres (-1) (rws c) (wds c) (rws c) (wds c) L M = R := ⟨_, rfl⟩
  rw [hV, hR] at TL
  rw [hR] at HT
  rw [hV, hR]
  clear hb hg hb2 hg2 hV hR hm
  go_enter Tryz.func47, Tryz.ntmps47
  go_wp2_with (first
    | (go_at_call 67; (with_reducible refine CA.out.mono ?_); rintro e w1 ⟨rfl, hb1⟩; have HB1 := Lib.hid hb1; clear hb1)
    | (go_at_call 75; (with_reducible refine (WY.out _ HB1.out).mono ?_); rintro e w2 ⟨rfl, hb2⟩; have HB2 := Lib.hid (below_call HB1.out hb2 (Nat.le_refl _)); clear hb2))
  have c0 := cell_up c0w HB2.out
  have c1 := cell_up c1w HB2.out
  have TL1 : Hid (∀ w', Below w2.heap.size w2 w' → _) := Lib.hid (fun w' hb2 => TL.out w' (below_call HB2.out hb2 (Nat.le_refl _)))
  go_region_held3 (fun w' => w'.cell? ⟨b, 0, none⟩ = some (.pointer (some gp)) ∧ w'.cell? ⟨b2, 0, none⟩ = some (.pointer (some gp2))) (first | (refine ⟨?_, ?_⟩ <;> (first | (with_reducible assumption) | (with_reducible refine cell_up c0 ?_) | (with_reducible refine cell_up c1 ?_)) <;> (repeat' (first | (with_reducible exact Below.refl _ _) | (with_reducible assumption) | (with_reducible refine below_over ?_ _ _) | (with_reducible refine Lw.below_alloc ?_ _) | (with_reducible refine Below.drew ?_) | (with_reducible refine below_drewN ?_ _) | (with_reducible refine Below.setCell ?_ ?_ _) | go_size)))) (first
    | (go_at_call 76; (with_reducible refine (TL1.out _ (by (repeat' (first | (with_reducible exact Below.refl _ _) | (with_reducible assumption) | (with_reducible refine below_over ?_ _ _) | (with_reducible refine Lw.below_alloc ?_ _) | (with_reducible refine Below.drew ?_) | (with_reducible refine below_drewN ?_ _) | (with_reducible refine Below.setCell ?_ ?_ _) | go_size)))).mono ?_); rintro e w6 ⟨rfl, G6, hp6, hk6, hf6⟩; have HP6 := Lib.hid hp6; have HK6 := Lib.hid hk6; have HF6 := Lib.hid hf6; have x0 : w6.cell? ⟨b, 0, none⟩ = some (.pointer (some gp)) := hk6.cell c0w hGb; have x1 : w6.cell? ⟨b2, 0, none⟩ = some (.pointer (some gp2)) := hk6.cell c1w hap; clear hp6 hk6 hf6))
  all_goals go_wp2
  all_goals go_ret
  all_goals exact ⟨rfl, HT.out _ _ HP6.out HK6.out HF6.out⟩
set_option maxRecDepth 100000 in
set_option maxHeartbeats 4000000 in
theorem ssub_con (p : Addr) (F : Nat → Prop) (c : Cfg) (l : Int) (L : List (List Int)) (q : Addr) (G' : Nat → Prop) (M : List (List Int)) (w : World) (h : SK w p F c l L) (g : SK w q G' c l M) (hm : c.md = 2) :
    Calls Tryz.prog 47 #[.pointer (some p), .pointer (some q)] w fun e w' => e = .returned (.int .i64 3) ∧ Below w.heap.size w w' := by
  have CA := Lib.hid (salike_yes p F c l L q G' M w h g)
  have WY : Hid (∀ w', Below w.heap.size w w' → Calls Tryz.prog 75 #[.pointer (some p)] w' fun e w2 => e = .returned (.agg #[.func (.func 104) #[] #[], .func (.func 105) #[] #[], .bool false]) ∧ Below w'.heap.size w' w2) := Lib.hid (fun w' hb2 => way_con _ _ c l L w' (h.up hb2) hm)
  have hfd : ∀ w : World, (Instr.field 142 (.agg #[.func (.func 104) #[] #[], .func (.func 105) #[] #[], .bool false]) 2).run Tryz.prog w = .ok (.bool false) w := fun _ => by kernel_rfl
  clear h g hm
  go_enter Tryz.func47, Tryz.ntmps47
  go_wp2_with (first
    | (go_at_call 67; (with_reducible refine CA.out.mono ?_); rintro e w1 ⟨rfl, hb1⟩; have HB1 := Lib.hid hb1; clear hb1)
    | (go_at_call 75; (with_reducible refine (WY.out _ HB1.out).mono ?_); rintro e w2 ⟨rfl, hb2⟩; have HB2 := Lib.hid (below_call HB1.out hb2 (Nat.le_refl _)); clear hb2))
  go_ret
  exact ⟨rfl, HB2.out⟩
set_option maxRecDepth 100000 in
set_option maxHeartbeats 4000000 in
theorem ssub_med (p : Addr) (F : Nat → Prop) (c : Cfg) (l : Int) (L : List (List Int)) (q : Addr) (G' : Nat → Prop) (M : List (List Int)) (w : World) (h : SK w p F c l L) (g : SK w q G' c l M) (hm : c.md = 3) :
    Calls Tryz.prog 47 #[.pointer (some p), .pointer (some q)] w fun e w' => e = .returned (.int .i64 (jcode (-1) (rws c) (wds c) (rws c) (wds c) L M)) ∧ ∃ F', SK w' p F' c l (jres (-1) (rws c) (wds c) (rws c) (wds c) L M) ∧ Kept F w w' ∧ (∀ k, F' k → F k ∨ w.heap.size ≤ k) := by
  have CA := Lib.hid (salike_yes p F c l L q G' M w h g)
  have WY : Hid (∀ w', Below w.heap.size w w' → Calls Tryz.prog 75 #[.pointer (some p)] w' fun e w2 => e = .returned (.agg #[.func (.func 107) #[] #[], .func (.func 106) #[] #[], .bool true]) ∧ Below w'.heap.size w' w2) := Lib.hid (fun w' hb2 => way_med _ _ c l L w' (h.up hb2) hm)
  have hfd : ∀ w : World, (Instr.field 142 (.agg #[.func (.func 107) #[] #[], .func (.func 106) #[] #[], .bool true]) 2).run Tryz.prog w = .ok (.bool true) w := fun _ => by kernel_rfl
  obtain ⟨hr, hok, hl0, hl1, b, gp, G, rfl, hb, hg, hGb, rfl⟩ := h
  obtain ⟨hr2, hok2, gl0, gl1, b2, gp2, G2, rfl, hb2, hg2, hGb2, rfl⟩ := g
  have hbl := size_of_heap hb
  have hbl2 := size_of_heap hb2
  have c0w := grd_cell hb 0 (v := .pointer (some gp)) rfl
  have c1w := grd_cell hb2 0 (v := .pointer (some gp2)) rfl
  have hap : ¬ G b2 := sk_apart hg (Nat.mul_pos (rws_bd hr).1 (wds_bd hr).1) (vs := [_, _, _, _, _, _]) (by simp) hb2
  have hap : ¬ G b2 := sk_apart hg (Nat.mul_pos (rws_bd hr).1 (wds_bd hr).1) (vs := [_, _, _, _, _, _]) (by simp) hb2
  have TL : Hid (∀ w', Below w.heap.size w w' → Calls Tryz.prog 76 #[.pointer (some gp), .pointer (some gp2)] w' fun e w2 => e = .returned (.int .i64 (jcode (-1) (rws c) (wds c) (rws c) (wds c) L M)) ∧ ∃ G6, PG w2 gp G6 (rws c) (wds c) (jres (-1) (rws c) (wds c) (rws c) (wds c) L M) ∧ Kept G w w2 ∧ (∀ q, G6 q → G q ∨ w.heap.size ≤ q)) := Lib.hid (fun w' hb2 => (minus_all gp gp2 G G2 _ _ _ _ L M w' (pg_up hg hb2) (pg_up hg2 hb2)).mono (fun e w2 ⟨e1, G', h1, h2, h3⟩ => ⟨e1, G', h1, (Kept.of_below hb2).trans h2 (fun q hq h => h), fun q hq => (h3 q hq).elim .inl (fun h => .inr (Nat.le_trans hb2.size h))⟩))
  have HT : Hid (∀ w' G', PG w' gp G' (rws c) (wds c) (jres (-1) (rws c) (wds c) (rws c) (wds c) L M) → Kept G w w' → (∀ k, G' k → G k ∨ w.heap.size ≤ k) → ∃ F', SK w' ⟨b, 0, none⟩ F' c l (jres (-1) (rws c) (wds c) (rws c) (wds c) L M) ∧ Kept (fun k => k = b ∨ G k) w w' ∧ (∀ q, F' q → (q = b ∨ G q) ∨ w.heap.size ≤ q)) := Lib.hid (fun w' G' h1 h2 h3 => sk_turn hr hok hl0 hl1 hb hGb h1 h2 h3)
  obtain ⟨V, hV⟩ : ∃ V, jcode (-1) (rws c) (wds c) (rws c) (wds c) L M = V := ⟨_, rfl⟩
  obtain ⟨R, hR⟩ : ∃ R, jres (-1) (rws c) (wds c) (rws c) (wds c) L M = R := ⟨_, rfl⟩
  rw [hV, hR] at TL
  rw [hR] at HT
  rw [hV, hR]
  clear hb hg hb2 hg2 hV hR hm
  go_enter Tryz.func47, Tryz.ntmps47
  go_wp2_with (first
    | (go_at_call 67; (with_reducible refine CA.out.mono ?_); rintro e w1 ⟨rfl, hb1⟩; have HB1 := Lib.hid hb1; clear hb1)
    | (go_at_call 75; (with_reducible refine (WY.out _ HB1.out).mono ?_); rintro e w2 ⟨rfl, hb2⟩; have HB2 := Lib.hid (below_call HB1.out hb2 (Nat.le_refl _)); clear hb2))
  have c0 := cell_up c0w HB2.out
  have c1 := cell_up c1w HB2.out
  have TL1 : Hid (∀ w', Below w2.heap.size w2 w' → _) := Lib.hid (fun w' hb2 => TL.out w' (below_call HB2.out hb2 (Nat.le_refl _)))
  go_region_held3 (fun w' => w'.cell? ⟨b, 0, none⟩ = some (.pointer (some gp)) ∧ w'.cell? ⟨b2, 0, none⟩ = some (.pointer (some gp2))) (first | (refine ⟨?_, ?_⟩ <;> (first | (with_reducible assumption) | (with_reducible refine cell_up c0 ?_) | (with_reducible refine cell_up c1 ?_)) <;> (repeat' (first | (with_reducible exact Below.refl _ _) | (with_reducible assumption) | (with_reducible refine below_over ?_ _ _) | (with_reducible refine Lw.below_alloc ?_ _) | (with_reducible refine Below.drew ?_) | (with_reducible refine below_drewN ?_ _) | (with_reducible refine Below.setCell ?_ ?_ _) | go_size)))) (first
    | (go_at_call 76; (with_reducible refine (TL1.out _ (by (repeat' (first | (with_reducible exact Below.refl _ _) | (with_reducible assumption) | (with_reducible refine below_over ?_ _ _) | (with_reducible refine Lw.below_alloc ?_ _) | (with_reducible refine Below.drew ?_) | (with_reducible refine below_drewN ?_ _) | (with_reducible refine Below.setCell ?_ ?_ _) | go_size)))).mono ?_); rintro e w6 ⟨rfl, G6, hp6, hk6, hf6⟩; have HP6 := Lib.hid hp6; have HK6 := Lib.hid hk6; have HF6 := Lib.hid hf6; have x0 : w6.cell? ⟨b, 0, none⟩ = some (.pointer (some gp)) := hk6.cell c0w hGb; have x1 : w6.cell? ⟨b2, 0, none⟩ = some (.pointer (some gp2)) := hk6.cell c1w hap; clear hp6 hk6 hf6))
  all_goals go_wp2
  all_goals go_ret
  all_goals exact ⟨rfl, HT.out _ _ HP6.out HK6.out HF6.out⟩
theorem ssub_any (p : Addr) (F : Nat → Prop) (c : Cfg) (l : Int) (L : List (List Int)) (q : Addr) (G : Nat → Prop) (c' : Cfg) (l' : Int) (M : List (List Int)) (w : World) (h : SK w p F c l L) (g : SK w q G c' l' M) :
    Calls Tryz.prog 47 #[.pointer (some p), .pointer (some q)] w fun e w' => e = .returned (.int .i64 (mgCode (-1) c c' l l' L M)) ∧ ∃ F', SK w' p F' c l (mgRes (-1) c c' l l' L M) ∧ Kept F w w' ∧ (∀ k, F' k → F k ∨ w.heap.size ≤ k) := by
  unfold mgCode mgRes
  by_cases hn : cfgE c c' = true ∧ l = l'
  · rw [if_pos hn, if_pos hn]
    have hc := of_decide_eq_true hn.1
    have e : c = c' := by cases c; cases c'; simp_all
    have e2 := hn.2
    subst e e2
    have h3 : c.md = 1 ∨ c.md = 2 ∨ c.md = 3 := by have := h.1.2.2.2.2.2.2; omega
    rcases h3 with h3 | h3 | h3
    · rw [if_neg (by omega), if_neg (by omega)]; exact ssub_lin p F c l L q G M w h g h3
    · rw [if_pos ⟨rfl, h3⟩, if_pos ⟨rfl, h3⟩]
      exact (ssub_con p F c l L q G M w h g h3).mono (fun e w' h2 => ⟨h2.1, F, h.up h2.2, Kept.of_below h2.2, fun q hq => .inl hq⟩)
    · rw [if_neg (by omega), if_neg (by omega)]; exact ssub_med p F c l L q G M w h g h3
  · rw [if_neg hn, if_neg hn]
    exact (ssub_no p F c l L q G c' l' M w h g hn).mono (fun e w' h2 => ⟨h2.1, F, h.up h2.2, Kept.of_below h2.2, fun q hq => .inl hq⟩)
set_option maxRecDepth 100000 in
set_option maxHeartbeats 4000000 in
theorem sload_no (p : Addr) (F : Nat → Prop) (c : Cfg) (l : Int) (L : List (List Int)) (A : Option Addr) (N cap : Nat) (zs : List Int) (w : World) (h : SK w p F c l L) (hc : Rd .i64 w A zs) (hl : zs.length = N) (hN : N ≤ 100000) (hne : N ≠ rws c * wds c) :
    Calls Tryz.prog 164 #[.pointer (some p), .slice A N cap] w fun e w' => e = .returned (.bool false) ∧ Below w.heap.size w w' := by
  obtain ⟨hr, hok, hl0, hl1, b, gp, G, rfl, hb, hg, hGb, rfl⟩ := h
  have hbl := size_of_heap hb
  have c0w := grd_cell hb 0 (v := .pointer (some gp)) rfl
  have hrw := rws_bd hr
  have hwd := wds_bd hr
  obtain ⟨m, hm⟩ : ∃ m, rws c = m := ⟨_, rfl⟩
  obtain ⟨n, hn⟩ : ∃ n, wds c = n := ⟨_, rfl⟩
  rw [hm, hn] at hg
  rw [hm] at hrw
  rw [hn] at hwd
  have HP : Hid (∀ d, PG (w.drewN d) gp G m n L) := Lib.hid (fun d => pg_drewN hg d)
  obtain ⟨q, hq⟩ : ∃ q, q = m * n := ⟨_, rfl⟩
  have hqi : (m : Int) * n = (q : Int) := by rw [hq]; simp
  have hq1 : q ≤ 1024 := by rw [hq]; exact Nat.le_trans (Nat.mul_le_mul hrw.2.1 hwd.2.1) (by decide)
  have hne2 : ((N : Int) == (q : Int)) = false := by simp; rw [hq, ← hm, ← hn]; exact_mod_cast hne
  clear hb hg hc hl hm hn hrw hwd hq hne
  go_enter Tryz.func164, Tryz.ntmps164
  go_wp2
  go_quiet (first
    | (go_at_call 132; with_reducible refine Calls.quiet_of_same (rows_eq gp G m n L _ (HP.out _)))
    | (go_at_call 133; with_reducible refine Calls.quiet_of_same (width_eq gp G m n L _ (HP.out _))))
  all_goals go_wp2
  all_goals go_ret
  all_goals exact ⟨rfl, by (repeat' (first | (with_reducible exact Below.refl _ _) | (with_reducible assumption) | (with_reducible refine below_over ?_ _ _) | (with_reducible refine Lw.below_alloc ?_ _) | (with_reducible refine Below.drew ?_) | (with_reducible refine below_drewN ?_ _) | (with_reducible refine Below.setCell ?_ ?_ _) | go_size))⟩
theorem div_at {j m n : Nat} (hn : 1 ≤ n) (hj : j < m * n) : (j / n) < m ∧ j % n < n ∧ (j / n) * n + j % n = j := by
  refine ⟨Nat.div_lt_of_lt_mul (by rw [Nat.mul_comm]; exact hj), Nat.mod_lt _ (by omega), ?_⟩
  rw [Nat.mul_comm]
  exact Nat.div_add_mod j n
set_option maxRecDepth 100000 in
set_option maxHeartbeats 4000000 in
theorem sload_yes (p : Addr) (F : Nat → Prop) (c : Cfg) (l : Int) (L : List (List Int)) (A : Option Addr) (N cap : Nat) (zs : List Int) (w : World) (h : SK w p F c l L) (hc : Rd .i64 w A zs) (hl : zs.length = N) (hN : N ≤ 100000) (hz : In64 zs) (hap : ∀ a, A = some a → ¬ F a.block) (he : N = rws c * wds c) :
    Calls Tryz.prog 164 #[.pointer (some p), .slice A N cap] w fun e w' => e = .returned (.bool true) ∧ ∃ F' L', SK w' p F' c l L' ∧ L'.flatten = zs ∧ Kept F w w' ∧ (∀ k, F' k → F k ∨ w.heap.size ≤ k) := by
  obtain ⟨hr, hok, hl0, hl1, b, gp, G, rfl, hb, hg, hGb, rfl⟩ := h
  have hbl := size_of_heap hb
  have c0w := grd_cell hb 0 (v := .pointer (some gp)) rfl
  have hrw := rws_bd hr
  have hwd := wds_bd hr
  obtain ⟨m, hm⟩ : ∃ m, rws c = m := ⟨_, rfl⟩
  obtain ⟨n, hn⟩ : ∃ n, wds c = n := ⟨_, rfl⟩
  rw [hm, hn] at hg
  rw [hm] at hrw
  rw [hn] at hwd
  have HP : Hid (∀ d, PG (w.drewN d) gp G m n L) := Lib.hid (fun d => pg_drewN hg d)
  obtain ⟨q, hq⟩ : ∃ q, q = m * n := ⟨_, rfl⟩
  have hqi : (m : Int) * n = (q : Int) := by rw [hq]; simp
  have hq1 : q ≤ 1024 := by rw [hq]; exact Nat.le_trans (Nat.mul_le_mul hrw.2.1 hwd.2.1) (by decide)
  have hNq : N = q := by rw [hq, ← hm, ← hn]; exact he
  subst hNq
  have hN1 : 1 ≤ N := by rw [hq]; exact Nat.mul_pos (by omega) (by omega)
  obtain ⟨a, rfl⟩ := hc.some_of (by omega)
  have HT : Hid (∀ w' G' L', PG w' gp G' m n L' → Kept G w w' → (∀ k, G' k → G k ∨ w.heap.size ≤ k) → ∃ F', SK w' ⟨b, 0, none⟩ F' c l L' ∧ Kept (fun k => k = b ∨ G k) w w' ∧ (∀ q, F' q → (q = b ∨ G q) ∨ w.heap.size ≤ q)) := Lib.hid (fun w' G' L' h1 h2 h3 => sk_turn hr hok hl0 hl1 hb hGb (by rw [hm, hn]; exact h1) h2 h3)
  have HG := Lib.hid hg
  have HC := Lib.hid hc
  have HL := Lib.hid hl
  have HZ := Lib.hid hz
  have HGB := Lib.hid hGb
  have hFL : L.flatten.length = N := by rw [flat_dims hg.1, hq]
  have HFL := Lib.hid hFL
  have HQ := Lib.hid hq
  have hn1 : 1 ≤ n := hwd.1
  have hm8 : m ≤ 8 := hrw.2.1
  have hn128 : n ≤ 128 := hwd.2.1
  have hnz : ((n : Int) == 0) = false := by simp; omega
  have hnz2 : ¬ (n : Int) = 0 := by omega
  have hnz3 : ¬ n = 0 := by omega
  have hapG : ¬ G a.block := fun hk => hap a rfl (.inr hk)
  clear hb hg hc hl hm hn hrw hwd hq hz hGb hFL hap he
  go_enter Tryz.func164, Tryz.ntmps164
  go_wp2
  go_quiet (first
    | (go_at_call 132; with_reducible refine Calls.quiet_of_same (rows_eq gp G m n L _ (HP.out _)))
    | (go_at_call 133; with_reducible refine Calls.quiet_of_same (width_eq gp G m n L _ (HP.out _))))
  all_goals go_wp2
  clear hqi
  go_loopw [23] (fun i wr => ∃ (j : Nat), j ≤ N ∧ i = .int .i64 j ∧ ∃ Gj Lj, PG wr gp Gj m n Lj ∧ Lj.flatten = upto2 L.flatten zs j ∧ Kept G w wr ∧ (∀ k, Gj k → G k ∨ w.heap.size ≤ k)) (fun i _ => N - (intOf i).toNat)
  case atStart => exact ⟨0, Nat.zero_le _, rfl, G, L, HP.out 1, by rw [upto2_start], (Kept.refl G w).drewN _, fun k hk => .inl hk⟩
  case round =>
    obtain ⟨j, hj, rfl, Gj, Lj, hpg, hfl, hk, hgj⟩ := hrel
    have HPj := Lib.hid hpg
    have HFj := Lib.hid hfl
    have HKj := Lib.hid hk
    have HGj := Lib.hid hgj
    clear hpg hfl hk hgj
    by_cases hlt : j < N
    · obtain ⟨z, hz⟩ : ∃ z, zs[j]? = some z := ⟨_, List.getElem?_eq_getElem (by rw [HL.out]; exact hlt)⟩
      have zb := HZ.out.at hz
      have c1 := HKj.out.cell (HC.out.at hz) (by have e : (a.add j).block = a.block := by { unfold Addr.add; split <;> rfl }
                                                 rw [e]; exact hapG)
      have c0 := HKj.out.cell c0w HGB.out
      obtain ⟨dv1, dv2, dv3⟩ := div_at (m := m) (n := n) (j := j) hn1 (HQ.out ▸ hlt)
      obtain ⟨r, hr9⟩ : ∃ r, r = j / n := ⟨_, rfl⟩
      obtain ⟨v, hv9⟩ : ∃ v, v = j % n := ⟨_, rfl⟩
      have tq : Int.tdiv (j : Int) n = r := by rw [hr9, Int.tdiv_eq_ediv_of_nonneg (by omega)]; rfl
      have tm : Int.tmod (j : Int) n = v := by rw [hv9, Int.tmod_eq_emod_of_nonneg (by omega)]; rfl
      have wr1 : IntKind.i64.wrap (r : Int) = r := IntWalk.i64_in _ ⟨by omega, by omega⟩
      have wv1 : IntKind.i64.wrap (v : Int) = v := IntWalk.i64_in _ ⟨by omega, by omega⟩
      rw [← hr9, ← hv9] at dv3
      rw [← hr9] at dv1
      rw [← hv9] at dv2
      clear hr9 hv9
      have HZ2 := Lib.hid hz
      have PT : Hid (∀ w', Below wr.heap.size wr w' → Calls Tryz.prog 123 #[.pointer (some gp), .int .i64 (r : Int), .int .i64 (v : Int), .int .i64 z] w' fun e w2 => (∃ b, e = .returned (.bool b)) ∧ ∃ G', PG w2 gp G' m n (setL Lj r v z) ∧ Kept G w w2 ∧ (∀ q, G' q → G q ∨ w.heap.size ≤ q)) := Lib.hid (fun w' hb2 => (put_any gp Gj m n Lj r v z w' (pg_up HPj.out hb2) (by omega) (by omega) (by omega) (by omega) zb.1 zb.2).mono (fun e w2 ⟨e1, G', h1, h2, h3⟩ => ⟨⟨_, e1⟩, G', h1, (HKj.out.then hb2).trans h2 (fun q hq h => (HGj.out q h).elim id (fun h4 => by omega)), fun q hq => (h3 q hq).elim (fun h4 => HGj.out q h4) (fun h4 => .inr (Nat.le_trans (HKj.out.then hb2).size h4))⟩))
      clear hz
      have WD : Hid (∀ w', Below wr.heap.size wr w' → Calls Tryz.prog 133 #[.pointer (some gp)] w' fun e w2 => e = .returned (.int .i64 n) ∧ w2 = w') := Lib.hid (fun w' hb2 => width_eq gp Gj m n Lj w' (pg_up HPj.out hb2))
      go_wp2
      go_region_held3 (fun w' => w'.cell? ⟨b, 0, none⟩ = some (.pointer (some gp))) (first | (with_reducible assumption) | (with_reducible refine cell_up c0 ?_ <;> (repeat' (first | (with_reducible exact Below.refl _ _) | (with_reducible assumption) | (with_reducible refine below_over ?_ _ _) | (with_reducible refine Lw.below_alloc ?_ _) | (with_reducible refine Below.drew ?_) | (with_reducible refine below_drewN ?_ _) | (with_reducible refine Below.setCell ?_ ?_ _) | go_size)))) (first
        | (go_at_call 133; (with_reducible refine (WD.out _ (by (repeat' (first | (with_reducible exact Below.refl _ _) | (with_reducible assumption) | (with_reducible refine below_over ?_ _ _) | (with_reducible refine Lw.below_alloc ?_ _) | (with_reducible refine Below.drew ?_) | (with_reducible refine below_drewN ?_ _) | (with_reducible refine Below.setCell ?_ ?_ _) | go_size)))).mono ?_); rintro e w' ⟨rfl, rfl⟩)
        | (go_at_call 123; (with_reducible refine (PT.out _ (by (repeat' (first | (with_reducible exact Below.refl _ _) | (with_reducible assumption) | (with_reducible refine below_over ?_ _ _) | (with_reducible refine Lw.below_alloc ?_ _) | (with_reducible refine Below.drew ?_) | (with_reducible refine below_drewN ?_ _) | (with_reducible refine Below.setCell ?_ ?_ _) | go_size)))).mono ?_); rintro e w6 ⟨⟨bb, rfl⟩, G6, hp6, hk6, hf6⟩; have HP6 := Lib.hid hp6; have HK6 := Lib.hid hk6; have HF6 := Lib.hid hf6; have x0 : w6.cell? ⟨b, 0, none⟩ = some (.pointer (some gp)) := hk6.cell c0w HGB.out; clear hp6 hk6 hf6))
      all_goals go_wp2
      all_goals go_roundw
      case rel => exact ⟨j + 1, by omega, by go_num, G6, _, HP6.out, by rw [flat_put HPj.out.1 z (by omega) (by omega) (by omega) (by omega), HFj.out, Int.toNat_natCast, Int.toNat_natCast, dv3, upto2_set HFL.out HL.out HZ2.out], HK6.out, HF6.out⟩
      case measure => simp [intOf]; omega
    · have e : j = N := by omega
      subst e
      go_wp2
      go_ret
      obtain ⟨F', h1, h2, h3⟩ := HT.out _ _ _ HPj.out HKj.out HGj.out
      exact ⟨rfl, F', Lj, h1, by rw [HFj.out, upto2_end HFL.out HL.out], h2, h3⟩
end Go.Proofs.YtkannodfamnmcaaGreat.Sk
/- What the statements of layer 10 lean on. Printed by wip/gen/sklaws.py. -/
namespace Go.Proofs.YtkannodfamnmcaaGreat.Sk
open Go Go.RowKit Lw Grd Lin Con Shp
set_option linter.unusedVariables false
set_option linter.unusedSimpArgs false
theorem ret_bs {a b : Bool} (h : a = b) : Ending.returned (.bool a) = Ending.returned (.bool b) := by rw [h]
theorem ret_is {k : IntKind} {a b : Int} (h : a = b) : Ending.returned (.int k a) = .returned (.int k b) := by rw [h]
set_option maxRecDepth 100000 in
theorem open_cfg_c : Tryz.prog.cellsOf 24 = 5 := by kernel_rfl
set_option maxRecDepth 100000 in
theorem open_cfg {H : Type} {enc : TypeId × Value → H} {w : World} {v : Value} {d : DataW H} {p : List MemPlace} {base : Nat} (hv : Value.okWide Tryz.prog w .any base 24 v)
    (h : DataW.Trod enc Tryz.prog w 0 (fun _ => true) true 24 v d p) :
    ∃ (x0 : Int) (x1 : Int) (x2 : Int) (x3 : Int) (x4 : Int), v = .agg #[.int .i64 x0, .int .i64 x1, .int .i64 x2, .int .i64 x3, .int .u64 x4] ∧ (-9223372036854775808 ≤ x0 ∧ x0 ≤ 9223372036854775807) ∧ (-9223372036854775808 ≤ x1 ∧ x1 ≤ 9223372036854775807) ∧ (-9223372036854775808 ≤ x2 ∧ x2 ≤ 9223372036854775807) ∧ (-9223372036854775808 ≤ x3 ∧ x3 ≤ 9223372036854775807) ∧ (0 ≤ x4 ∧ x4 ≤ 18446744073709551615) := by
  have hcs : ∃ cs : Array Value, v = .agg cs ∧ cs.size = Tryz.prog.cellsOf 24 := by
    simp only [Value.okWide, Tryz.underlying24] at hv
    obtain ⟨cs, h1, h2, _⟩ := hv
    exact ⟨cs, h1, h2⟩
  obtain ⟨⟨l⟩, rfl, hsz⟩ := hcs
  rw [open_cfg_c] at hsz
  obtain ⟨fuel, hf0⟩ := h
  obtain ⟨xs, k, _, _, _, hxl, hf⟩ := DataW.trod_struct Tryz.underlying24 hf0
  match xs, hxl, l, hsz with
  | [y0, y1, y2, y3, y4], _, [v0, v1, v2, v3, v4], _ =>
    have g0 := hf 0 _ rfl
    have g1 := hf 1 _ rfl
    have g2 := hf 2 _ rfl
    have g3 := hf 3 _ rfl
    have g4 := hf 4 _ rfl
    simp [Value.cells, show Tryz.prog.cellsOf 3 = 1 from by kernel_rfl, show Tryz.prog.cellsOf 22 = 1 from by kernel_rfl] at g0 g1 g2 g3 g4
    obtain ⟨x0, f0, _, w0⟩ := DataW.trod_int (show Tryz.prog.underlying 3 = some (.int .i64) by kernel_rfl) g0
    simp at f0
    subst f0
    obtain ⟨x1, f1, _, w1⟩ := DataW.trod_int (show Tryz.prog.underlying 3 = some (.int .i64) by kernel_rfl) g1
    simp at f1
    subst f1
    obtain ⟨x2, f2, _, w2⟩ := DataW.trod_int (show Tryz.prog.underlying 3 = some (.int .i64) by kernel_rfl) g2
    simp at f2
    subst f2
    obtain ⟨x3, f3, _, w3⟩ := DataW.trod_int (show Tryz.prog.underlying 3 = some (.int .i64) by kernel_rfl) g3
    simp at f3
    subst f3
    obtain ⟨x4, f4, _, w4⟩ := DataW.trod_int (show Tryz.prog.underlying 22 = some (.int .u64) by kernel_rfl) g4
    simp at f4
    subst f4
    exact ⟨x0, x1, x2, x3, x4, rfl, Lw.wf_i64 w0, Lw.wf_i64 w1, Lw.wf_i64 w2, Lw.wf_i64 w3, Lw.wf_u64 w4⟩
theorem open_upds_u : Tryz.prog.underlying 59 = some (.slice 63) := by kernel_rfl
theorem open_upds_c : Tryz.prog.cellsOf 63 = 2 := by kernel_rfl
set_option maxRecDepth 100000 in
theorem open_upds {H : Type} {enc : TypeId × Value → H} {w : World} {base fuel : Nat} {spare : Nat → Bool} {held : Bool} {cs : List Value} {x : DataW H × List MemPlace} (h : DataW.trod enc Tryz.prog w base spare held fuel 59 cs = some x) :
    ∃ (A : Option Addr) (len cap : Nat) (qs : List (Int × Int)), cs = [.slice A len cap] ∧ (A = none → len = 0 ∧ cap = 0) ∧ len ≤ cap ∧ cap ≤ maxLen ∧ qs.length = len ∧ ∀ (i : Nat) q, qs[i]? = some q → ∃ a, A = some a ∧ w.cell? (a.add (i * 2)) = some (.int .u64 (q.1)) ∧ w.cell? (a.add (i * 2 + 1)) = some (.int .i64 (q.2)) ∧ (0 ≤ (q.1) ∧ (q.1) ≤ 18446744073709551615) ∧ (-9223372036854775808 ≤ (q.2) ∧ (q.2) ≤ 9223372036854775807) := by
  rcases Go.Deep.open_slice open_upds_u h with ⟨rfl, _⟩ | ⟨a, len, cap, m, n, D, Pl, rfl, hb, hl, hm, hmm, _, hx⟩
  · exact ⟨none, 0, 0, [], rfl, fun _ => ⟨rfl, rfl⟩, Nat.le_refl _, by simp, rfl, fun i q hq => by simp at hq⟩
  have hlm : len ≤ m := by rw [hmm]; split <;> omega
  have each : ∀ i, i < len → ∃ q : Int × Int, w.cell? (a.add (i * 2)) = some (.int .u64 (q.1)) ∧ w.cell? (a.add (i * 2 + 1)) = some (.int .i64 (q.2)) ∧ (0 ≤ (q.1) ∧ (q.1) ≤ 18446744073709551615) ∧ (-9223372036854775808 ≤ (q.2) ∧ (q.2) ≤ 9223372036854775807) := by
    intro i hi
    obtain ⟨cs', h1, h2⟩ := hx i (by omega)
    rw [open_upds_c] at h1
    obtain ⟨_, hlen, hcell⟩ := World.cells?_some h1
    obtain ⟨xs, k, _, _, _, hxl, hf⟩ := DataW.trod_struct Tryz.underlying63 h2
    match xs, hxl, cs', hlen with
    | [y0, y1], _, [v0, v1], _ =>
      have g0 := hf 0 _ rfl
      have g1 := hf 1 _ rfl
      have e0 := hcell 0 (by omega)
      have e1 := hcell 1 (by omega)
      rw [add_add'] at e0 e1
      simp [show Tryz.prog.cellsOf 22 = 1 from by kernel_rfl, show Tryz.prog.cellsOf 2 = 1 from by kernel_rfl] at g0 g1
      obtain ⟨x0, f0, _, w0⟩ := DataW.trod_int (show Tryz.prog.underlying 22 = some (.int .u64) by kernel_rfl) g0
      obtain ⟨x1, f1, _, w1⟩ := DataW.trod_int (show Tryz.prog.underlying 2 = some (.int .i64) by kernel_rfl) g1
      simp at f0 f1
      subst f0 f1
      exact ⟨(x0, x1), by simpa using e0, by simpa using e1, Lw.wf_u64 w0, Lw.wf_i64 w1⟩
  have each2 : ∀ i, ∃ q : Int × Int, i < len → (w.cell? (a.add (i * 2)) = some (.int .u64 (q.1)) ∧ w.cell? (a.add (i * 2 + 1)) = some (.int .i64 (q.2)) ∧ (0 ≤ (q.1) ∧ (q.1) ≤ 18446744073709551615) ∧ (-9223372036854775808 ≤ (q.2) ∧ (q.2) ≤ 9223372036854775807)) := fun i => by
    by_cases hi : i < len
    · obtain ⟨q, hq⟩ := each i hi
      exact ⟨q, fun _ => hq⟩
    · exact ⟨(0, 0), fun h => absurd h hi⟩
  refine ⟨some a, len, cap, (List.range len).map fun i => Classical.choose (each2 i), rfl, (fun h => by cases h), hl, hm, by simp, ?_⟩
  intro i q hq
  rw [List.getElem?_map] at hq
  obtain ⟨j, hj, rfl⟩ := Option.map_eq_some_iff.1 hq
  have hj2 := List.getElem?_eq_some_iff.1 hj
  obtain ⟨hj3, hj4⟩ := hj2
  simp at hj3 hj4
  subst hj4
  exact ⟨a, rfl, Classical.choose_spec (each2 i) hj3⟩
/-- A row of updates, handed in. -/
structure UpdV (w : World) (A : Option Addr) (n c : Nat) (qs : Ups) : Prop where
  nil : A = none → n = 0 ∧ c = 0
  nc : n ≤ c
  cm : c ≤ maxLen
  len : qs.length = n
  each : ∀ (i : Nat) q, qs[i]? = some q → ∃ a, A = some a ∧ w.cell? (a.add (i * 2)) = some (.int .u64 (q.1)) ∧ w.cell? (a.add (i * 2 + 1)) = some (.int .i64 (q.2)) ∧ (0 ≤ (q.1) ∧ (q.1) ≤ 18446744073709551615) ∧ (-9223372036854775808 ≤ (q.2) ∧ (q.2) ≤ 9223372036854775807)
theorem UpdV.up {w w' : World} {A : Option Addr} {n c : Nat} {qs : Ups} (h : UpdV w A n c qs) (hb : Below w.heap.size w w') : UpdV w' A n c qs :=
  ⟨h.nil, h.nc, h.cm, h.len, fun i q hq => by
    obtain ⟨a, e, h1, h2, h3⟩ := h.each i q hq
    exact ⟨a, e, cell_up h1 hb, cell_up h2 hb, h3⟩⟩
theorem UpdV.at {w : World} {A : Option Addr} {n c : Nat} {qs : Ups} (h : UpdV w A n c qs) {i : Nat} {q : Int × Int} (hq : qs[i]? = some q) : ∃ (a : Addr) (g o : Nat), A = some a ∧ a.add (i * 2) = ⟨g, o, none⟩ ∧ w.cell? ⟨g, o, none⟩ = some (.int .u64 q.1) ∧ w.cell? ⟨g, o + 1, none⟩ = some (.int .i64 q.2) ∧ (0 ≤ q.1 ∧ q.1 ≤ 18446744073709551615) ∧ (-9223372036854775808 ≤ q.2 ∧ q.2 ≤ 9223372036854775807) := by
  obtain ⟨a, e, h1, h2, h3, h4⟩ := h.each i q hq
  rw [← add_add'] at h2
  have hs : (a.add (i * 2)).spot = none := by
    unfold World.cell? at h1
    split at h1
    · split at h1
      · cases h1
      · rename_i hs; simpa using hs
    · cases h1
  obtain ⟨ad, had⟩ : ∃ ad, a.add (i * 2) = ad := ⟨_, rfl⟩
  rw [had] at h1 h2 hs
  obtain ⟨g, o, sp⟩ := ad
  simp only at hs
  subst hs
  rw [Ord.add_at] at h2
  exact ⟨a, g, o, e, had, h1, h2, h3, h4⟩
theorem rem_key (k K : Int) (k0 : 0 ≤ k) (k1 : k ≤ 18446744073709551615) (hK : 1 ≤ K) : Int.tmod k K = k % K ∧ 0 ≤ k % K ∧ k % K ≤ 18446744073709551615 := by
  have h1 := Int.emod_nonneg k (show K ≠ 0 by omega)
  have h2 : k % K ≤ k := by
    have h3 := Int.mul_ediv_add_emod k K
    have h4 := Int.mul_nonneg (show (0 : Int) ≤ K by omega) (Int.ediv_nonneg k0 (show (0 : Int) ≤ K by omega))
    omega
  exact ⟨Int.tmod_eq_emod_of_nonneg k0, h1, by omega⟩
set_option maxRecDepth 100000 in
set_option maxHeartbeats 4000000 in
theorem rcut10_any (c : Cfg) (l k d : Int) (w : World) (h : c.Ok) (l0 : -9223372036854775808 ≤ l) (l1 : l ≤ 9223372036854775807) (k0 : 0 ≤ k) (k1 : k ≤ 18446744073709551615) (d0 : -9223372036854775808 ≤ d) (d1 : d ≤ 9223372036854775807) (hK : 1 ≤ keys c l) :
    Calls Tryz.prog 24 #[.agg #[.int .i64 c.bt, .int .i64 c.rw, .int .i64 c.wd, .int .i64 c.md, .int .u64 c.sd], .int .i64 l, .agg #[.int .u64 k, .int .i64 d]] w fun e w' => e = .returned (.agg #[.int .u64 (cutU c l (k, d)).1, .int .i64 (cutU c l (k, d)).2]) ∧ Below w.heap.size w w' := by
  have HO := Lib.hid h
  obtain ⟨K, hKK⟩ : ∃ K, keys c l = K := ⟨_, rfl⟩
  have CK := Lib.hid (fun w => rkeys_any c l w h l0 l1)
  rw [hKK] at CK hK
  obtain ⟨r1, r2, r3⟩ := rem_key k K k0 k1 hK
  have hKn : ¬ K = 0 := by omega
  have h1 := tmod_bd d
  obtain ⟨t, ht⟩ : ∃ t, Int.tmod d 1099511627776 = t := ⟨_, rfl⟩
  have hdv : (cutU c l (k, d)).2 = if c.md = 2 ∧ t < 0 then -t else t := by
    unfold cutU dv
    simp only [decide_eq_true_eq, ht]
    split <;> split <;> first | rfl | omega
  have hck : (cutU c l (k, d)).1 = k % K := by unfold cutU; rw [hKK]
  obtain ⟨R, hR⟩ : ∃ R, k % K = R := ⟨_, rfl⟩
  rw [hR] at r1 r2 r3 hck
  rw [hck]
  rw [ht] at h1
  obtain ⟨D, hD⟩ : ∃ D, (cutU c l (k, d)).2 = D := ⟨_, rfl⟩
  rw [hD] at hdv ⊢
  clear hKK hck hR hD h
  have go : ∀ b : Bool, (c.md == 2) = b → ∀ (s : Bool), decide (t < 0) = s → D = (if b = true ∧ s = true then -t else t) → Calls Tryz.prog 24 #[.agg #[.int .i64 c.bt, .int .i64 c.rw, .int .i64 c.wd, .int .i64 c.md, .int .u64 c.sd], .int .i64 l, .agg #[.int .u64 k, .int .i64 d]] w fun e w' => e = .returned (.agg #[.int .u64 R, .int .i64 D]) ∧ Below w.heap.size w w' := by
    clear hdv
    intro b hb s hs hd
    have HD := Lib.hid hd
    clear hd
    have hts : (s = true ∧ t < 0 ∧ t ≤ -t) ∨ (s = false ∧ 0 ≤ t ∧ -t ≤ t) := by
      cases s with
      | true => left; have := of_decide_eq_true hs; exact ⟨rfl, this, by omega⟩
      | false => right; have := of_decide_eq_false hs; exact ⟨rfl, by omega, by omega⟩
    clear hs
    cases b with
    | false =>
      go_enter Tryz.func24, Tryz.ntmps24
      go_wp2
      go_region_held3 (fun w' => w'.cell? ⟨w.heap.size, 0, none⟩ = some (.int .i64 c.bt) ∧ w'.cell? ⟨w.heap.size, 1, none⟩ = some (.int .i64 c.rw) ∧ w'.cell? ⟨w.heap.size, 2, none⟩ = some (.int .i64 c.wd) ∧ w'.cell? ⟨w.heap.size, 3, none⟩ = some (.int .i64 c.md) ∧ w'.cell? ⟨w.heap.size, 4, none⟩ = some (.int .u64 c.sd) ∧ w'.cell? ⟨w.heap.size + 1, 0, none⟩ = some (.int .u64 k)) (simp [go_sem]) (first | (go_at_call 34; (with_reducible refine (CK.out _).mono ?_); rintro e w' ⟨rfl, hb⟩; obtain ⟨bs, dd, rfl⟩ := below_grow hb; clear hb))
      go_wp2
      go_returns
      exact ⟨by rw [HD.out]; rfl, (by repeat' (first | (with_reducible exact Below.refl _ _) | (with_reducible assumption) | (with_reducible refine below_over ?_ _ _) | (with_reducible refine Lw.below_alloc ?_ _) | (with_reducible refine Below.drew ?_) | (with_reducible refine below_drewN ?_ _) | (with_reducible refine Below.setCell ?_ ?_ _) | go_size))⟩
    | true =>
      rcases hts with ⟨rfl, ht0, ht1⟩ | ⟨rfl, ht0, ht1⟩
      · skip
        go_enter Tryz.func24, Tryz.ntmps24
        go_wp2
        go_region_held3 (fun w' => w'.cell? ⟨w.heap.size, 0, none⟩ = some (.int .i64 c.bt) ∧ w'.cell? ⟨w.heap.size, 1, none⟩ = some (.int .i64 c.rw) ∧ w'.cell? ⟨w.heap.size, 2, none⟩ = some (.int .i64 c.wd) ∧ w'.cell? ⟨w.heap.size, 3, none⟩ = some (.int .i64 c.md) ∧ w'.cell? ⟨w.heap.size, 4, none⟩ = some (.int .u64 c.sd) ∧ w'.cell? ⟨w.heap.size + 1, 0, none⟩ = some (.int .u64 k)) (simp [go_sem]) (first | (go_at_call 34; (with_reducible refine (CK.out _).mono ?_); rintro e w' ⟨rfl, hb⟩; obtain ⟨bs, dd, rfl⟩ := below_grow hb; clear hb))
        go_wp2
        go_returns
        exact ⟨by rw [HD.out]; rfl, (by repeat' (first | (with_reducible exact Below.refl _ _) | (with_reducible assumption) | (with_reducible refine below_over ?_ _ _) | (with_reducible refine Lw.below_alloc ?_ _) | (with_reducible refine Below.drew ?_) | (with_reducible refine below_drewN ?_ _) | (with_reducible refine Below.setCell ?_ ?_ _) | go_size))⟩
      · skip
        go_enter Tryz.func24, Tryz.ntmps24
        go_wp2
        go_region_held3 (fun w' => w'.cell? ⟨w.heap.size, 0, none⟩ = some (.int .i64 c.bt) ∧ w'.cell? ⟨w.heap.size, 1, none⟩ = some (.int .i64 c.rw) ∧ w'.cell? ⟨w.heap.size, 2, none⟩ = some (.int .i64 c.wd) ∧ w'.cell? ⟨w.heap.size, 3, none⟩ = some (.int .i64 c.md) ∧ w'.cell? ⟨w.heap.size, 4, none⟩ = some (.int .u64 c.sd) ∧ w'.cell? ⟨w.heap.size + 1, 0, none⟩ = some (.int .u64 k)) (simp [go_sem]) (first | (go_at_call 34; (with_reducible refine (CK.out _).mono ?_); rintro e w' ⟨rfl, hb⟩; obtain ⟨bs, dd, rfl⟩ := below_grow hb; clear hb))
        go_wp2
        go_returns
        exact ⟨by rw [HD.out]; rfl, (by repeat' (first | (with_reducible exact Below.refl _ _) | (with_reducible assumption) | (with_reducible refine below_over ?_ _ _) | (with_reducible refine Lw.below_alloc ?_ _) | (with_reducible refine Below.drew ?_) | (with_reducible refine below_drewN ?_ _) | (with_reducible refine Below.setCell ?_ ?_ _) | go_size))⟩
  refine go (c.md == 2) rfl (decide (t < 0)) rfl ?_
  rw [hdv]
  simp

/-- The updates, cut: sixty of them. -/
def upsA (c : Cfg) (l : Int) (qs : Ups) : Ups := (qs.take 60).map (cutU c l)
theorem upsA_get {c : Cfg} {l : Int} {qs : Ups} {k : Nat} {q : Int × Int} (hk : k < 60) (hq : qs[k]? = some q) : (upsA c l qs)[k]? = some (cutU c l q) := by
  unfold upsA
  rw [List.getElem?_map, List.getElem?_take, if_pos hk, hq]
  rfl
theorem upsA_all {c : Cfg} {l : Int} {qs : Ups} {k : Nat} (h : k = qs.length ∨ k = 60) (hk : k ≤ 60) : (upsA c l qs).take k = upsA c l qs := by
  refine List.take_of_length_le ?_
  unfold upsA
  rw [List.length_map, List.length_take]
  omega
theorem upsA_bd {c : Cfg} {l : Int} (qs : Ups) (hK : 1 ≤ keys c l) (k : Nat) : ∀ u ∈ (upsA c l qs).take k, -1099511627776 ≤ u.2 ∧ u.2 ≤ 1099511627776 := by
  intro u hu
  have h1 := List.mem_of_mem_take hu
  unfold upsA at h1
  obtain ⟨v, _, rfl⟩ := List.mem_map.1 h1
  have := cutU_ok hK v
  exact ⟨this.2.2.1, this.2.2.2.1⟩
end Go.Proofs.YtkannodfamnmcaaGreat.Sk
