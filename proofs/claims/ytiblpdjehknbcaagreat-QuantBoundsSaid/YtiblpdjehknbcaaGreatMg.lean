/- Texts that the statements of this seat lean on, put together: SkCode, SkLawA, SkMath, SkOth, SkFed, SkShown, SkPtA, SkOne, SkTrial. -/
import Derived.Test.YtiblpdjehknbcaaGreatMa
import Derived.Test.YtiblpdjehknbcaaGreatMd
import Derived.Test.YtiblpdjehknbcaaGreatMe
import Derived.Test.YtiblpdjehknbcaaGreatMf
import Derived.Laws.EntriesVeiled
import Derived.Deep.LoopGhost
import Derived.Deep.RegionHeld3
import Derived.Deep.DeepCutAuto
import Derived.Deep.QuietTactic
import Derived.BigQuiet
/- The walks of package sketch (the code's): a sketch is a block of its grid, its config and its level. Printed by wip/gen/skcode.py. -/
namespace Go.Proofs.YtiblpdjehknbcaaGreat.Sk
open Go Go.RowKit Lw Grd Lin Con Shp
set_option linter.unusedVariables false
set_option linter.unusedSimpArgs false
/-- A sketch of the code at p, in the blocks F. -/
def SK (w : World) (p : Addr) (F : Nat → Prop) (c : Cfg) (l : Int) (L : List (List Int)) : Prop :=
  IsRight c ∧ c.Ok ∧ 0 ≤ l ∧ l ≤ c.bt ∧ ∃ (b : Nat) (gp : Addr) (G : Nat → Prop), p = ⟨b, 0, none⟩ ∧ w.heap[b]? = some (.cells #[.pointer (some gp), .int .i64 c.bt, .int .i64 c.rw, .int .i64 c.wd, .int .i64 c.md, .int .u64 c.sd, .int .i64 l] 137 (0, 0)) ∧ PG w gp G (rws c) (wds c) L ∧ ¬ G b ∧ F = (fun k => k = b ∨ G k)
theorem SK.dims {w : World} {p : Addr} {F : Nat → Prop} {c : Cfg} {l : Int} {L : List (List Int)} (h : SK w p F c l L) : Dims (rws c) (wds c) L := by
  obtain ⟨_, _, _, _, b, gp, G, _, _, h, _⟩ := h
  exact h.dims
theorem SK.right {w : World} {p : Addr} {F : Nat → Prop} {c : Cfg} {l : Int} {L : List (List Int)} (h : SK w p F c l L) : IsRight c ∧ 0 ≤ l ∧ l ≤ c.bt := ⟨h.1, h.2.2.1, h.2.2.2.1⟩
theorem SK.ok {w : World} {p : Addr} {F : Nat → Prop} {c : Cfg} {l : Int} {L : List (List Int)} (h : SK w p F c l L) : c.Ok := h.2.1
theorem SK.keep {w' : World} {H : Nat → Prop} {w : World} {p : Addr} {F : Nat → Prop} {c : Cfg} {l : Int} {L : List (List Int)} (h : SK w p F c l L) (hk : Kept H w w') (hf : ∀ k, F k → ¬ H k) : SK w' p F c l L := by
  obtain ⟨hr, hok, hl0, hl1, b, gp, G, rfl, hb, hg, hGb, rfl⟩ := h
  exact ⟨hr, hok, hl0, hl1, b, gp, G, rfl, hk.heap hb (hf b (.inl rfl)), (pgT gp G _ _ L).keep w w' H hg hk (fun k h => hf k (.inr h)), hGb, rfl⟩
theorem SK.up {w' : World} {w : World} {p : Addr} {F : Nat → Prop} {c : Cfg} {l : Int} {L : List (List Int)} (h : SK w p F c l L) (hk : Below w.heap.size w w') : SK w' p F c l L := h.keep (Kept.of_below (F := fun _ => False) hk) (fun _ _ h => h)
theorem SK.lt {w : World} {p : Addr} {F : Nat → Prop} {c : Cfg} {l : Int} {L : List (List Int)} (h : SK w p F c l L) (k : Nat) (hk : F k) : k < w.heap.size := by
  obtain ⟨hr, hok, hl0, hl1, b, gp, G, rfl, hb, hg, hGb, rfl⟩ := h
  rcases hk with rfl | hk
  · exact size_of_heap hb
  · exact (pgT gp G _ _ L).lt w hg k hk
def skT (p : Addr) (F : Nat → Prop) (c : Cfg) (l : Int) (L : List (List Int)) : Thing where
  I := fun w => SK w p F c l L
  F := F
  keep := fun w w' H h hk hf => h.keep hk hf
  lt := fun w h k hk => h.lt k hk
theorem cl_of {n : Int} {m : Nat} (h0 : 0 ≤ n) (h1 : n ≤ m) : cl n m = n.toNat := by unfold cl; omega
theorem sk_turn {w w' : World} {b : Nat} {gp : Addr} {G G' : Nat → Prop} {c : Cfg} {l : Int} {L : List (List Int)} (hr : IsRight c) (hok : c.Ok) (hl0 : 0 ≤ l) (hl1 : l ≤ c.bt)
    (hb : w.heap[b]? = some (.cells #[.pointer (some gp), .int .i64 c.bt, .int .i64 c.rw, .int .i64 c.wd, .int .i64 c.md, .int .u64 c.sd, .int .i64 l] 137 (0, 0))) (hGb : ¬ G b) (g' : PG w' gp G' (rws c) (wds c) L) (hk : Kept G w w') (hG : ∀ k, G' k → G k ∨ w.heap.size ≤ k) :
    ∃ F', SK w' ⟨b, 0, none⟩ F' c l L ∧ Kept (fun k => k = b ∨ G k) w w' ∧ (∀ q, F' q → (q = b ∨ G q) ∨ w.heap.size ≤ q) := by
  have hbl := size_of_heap hb
  refine ⟨_, ⟨hr, hok, hl0, hl1, b, gp, G', rfl, hk.heap hb hGb, g', fun h => ?_, rfl⟩, hk.mono (fun k _ h => .inr h), fun q hq => ?_⟩
  · rcases hG b h with h1 | h1
    · exact hGb h1
    · omega
  · rcases hq with rfl | h1
    · exact .inl (.inl rfl)
    · rcases hG q h1 with h2 | h2
      · exact .inl (.inr h2)
      · exact .inr h2
set_option maxRecDepth 100000 in
theorem way_lin (p : Addr) (F : Nat → Prop) (c : Cfg) (l : Int) (L : List (List Int)) (w : World) (h : SK w p F c l L) (hm : c.md = 1) :
    Calls Tryz.prog 143 #[.pointer (some p)] w fun e w' => e = .returned (.agg #[.func (.func 148) #[] #[], .func (.func 146) #[] #[], .bool true]) ∧ Below w.heap.size w w' := by
  obtain ⟨hr, hok, hl0, hl1, b, gp, G, rfl, hb, hg, hGb, rfl⟩ := h
  have hbl := size_of_heap hb
  have c4 := grd_cell hb 4 (v := .int .i64 c.md) rfl
  rw [hm] at c4
  clear hb hg hm
  go_enter Tryz.func143, Tryz.ntmps143
  go_wp2
  go_returns
  exact ⟨rfl, by (repeat' (first | (with_reducible exact Below.refl _ _) | (with_reducible assumption) | (with_reducible refine below_over ?_ _ _) | (with_reducible refine Lw.below_alloc ?_ _) | (with_reducible refine Below.drew ?_) | (with_reducible refine below_drewN ?_ _) | (with_reducible refine Below.setCell ?_ ?_ _) | go_size))⟩
set_option maxRecDepth 100000 in
theorem way_con (p : Addr) (F : Nat → Prop) (c : Cfg) (l : Int) (L : List (List Int)) (w : World) (h : SK w p F c l L) (hm : c.md = 2) :
    Calls Tryz.prog 143 #[.pointer (some p)] w fun e w' => e = .returned (.agg #[.func (.func 145) #[] #[], .func (.func 146) #[] #[], .bool false]) ∧ Below w.heap.size w w' := by
  obtain ⟨hr, hok, hl0, hl1, b, gp, G, rfl, hb, hg, hGb, rfl⟩ := h
  have hbl := size_of_heap hb
  have c4 := grd_cell hb 4 (v := .int .i64 c.md) rfl
  rw [hm] at c4
  clear hb hg hm
  go_enter Tryz.func143, Tryz.ntmps143
  go_wp2
  go_returns
  exact ⟨rfl, by (repeat' (first | (with_reducible exact Below.refl _ _) | (with_reducible assumption) | (with_reducible refine below_over ?_ _ _) | (with_reducible refine Lw.below_alloc ?_ _) | (with_reducible refine Below.drew ?_) | (with_reducible refine below_drewN ?_ _) | (with_reducible refine Below.setCell ?_ ?_ _) | go_size))⟩
set_option maxRecDepth 100000 in
theorem way_med (p : Addr) (F : Nat → Prop) (c : Cfg) (l : Int) (L : List (List Int)) (w : World) (h : SK w p F c l L) (hm : c.md = 3) :
    Calls Tryz.prog 143 #[.pointer (some p)] w fun e w' => e = .returned (.agg #[.func (.func 148) #[] #[], .func (.func 147) #[] #[], .bool true]) ∧ Below w.heap.size w w' := by
  obtain ⟨hr, hok, hl0, hl1, b, gp, G, rfl, hb, hg, hGb, rfl⟩ := h
  have hbl := size_of_heap hb
  have c4 := grd_cell hb 4 (v := .int .i64 c.md) rfl
  rw [hm] at c4
  clear hb hg hm
  go_enter Tryz.func143, Tryz.ntmps143
  go_wp2
  go_returns
  exact ⟨rfl, by (repeat' (first | (with_reducible exact Below.refl _ _) | (with_reducible assumption) | (with_reducible refine below_over ?_ _ _) | (with_reducible refine Lw.below_alloc ?_ _) | (with_reducible refine Below.drew ?_) | (with_reducible refine below_drewN ?_ _) | (with_reducible refine Below.setCell ?_ ?_ _) | go_size))⟩
set_option maxRecDepth 100000 in
set_option maxHeartbeats 4000000 in
theorem scolumns_yes (p : Addr) (F : Nat → Prop) (c : Cfg) (l : Int) (L : List (List Int)) (k : Int) (w : World) (h : SK w p F c l L) (k0 : 0 ≤ k) (k1 : k ≤ 18446744073709551615) (hk : k < keys c l) :
    Calls Tryz.prog 141 #[.pointer (some p), .int .u64 k] w fun e w' => ∃ g, e = .returned (.tuple #[.slice (some ⟨g, 0, none⟩) (rws c) (rws c), .int .i64 0]) ∧ Ord.Mid w' g 0 (cols c l k) ∧ w.heap.size ≤ g ∧ Below w.heap.size w w' := by
  obtain ⟨hr, hok, hl0, hl1, b, gp, G, rfl, hb, hg, hGb, rfl⟩ := h
  have hbl := size_of_heap hb
  have c1 := grd_cell hb 1 (v := .int .i64 c.bt) rfl
  have c2 := grd_cell hb 2 (v := .int .i64 c.rw) rfl
  have c3 := grd_cell hb 3 (v := .int .i64 c.wd) rfl
  have c4 := grd_cell hb 4 (v := .int .i64 c.md) rfl
  have c5 := grd_cell hb 5 (v := .int .u64 c.sd) rfl
  have c6 := grd_cell hb 6 (v := .int .i64 l) rfl
  have hrw := rws_bd hr
  have C := Lib.hid (fun w => columns_new c l k (rws c) w hok (by omega) (by have := hr.2.1; omega) k0 k1 hk hrw.2.2.symm hrw.2.1)
  have HCO : Hid ((List.range (rws c)).map (col c l k) = cols c l k) := Lib.hid (if_pos hk).symm
  obtain ⟨n, hn⟩ : ∃ n, rws c = n := ⟨_, rfl⟩
  rw [hn] at C hrw HCO ⊢
  have hn0 : 1 ≤ n := hrw.1
  clear hrw hn hk
  clear hb hg
  go_enter Tryz.func141, Tryz.ntmps141
  go_wp2
  go_region_held3 (fun w' => w'.cell? ⟨b, 1, none⟩ = some (.int .i64 c.bt) ∧ w'.cell? ⟨b, 2, none⟩ = some (.int .i64 c.rw) ∧ w'.cell? ⟨b, 3, none⟩ = some (.int .i64 c.wd) ∧ w'.cell? ⟨b, 4, none⟩ = some (.int .i64 c.md) ∧ w'.cell? ⟨b, 5, none⟩ = some (.int .u64 c.sd) ∧ w'.cell? ⟨b, 6, none⟩ = some (.int .i64 l)) (first | (refine ⟨?_, ?_, ?_, ?_, ?_, ?_⟩ <;> (first | (with_reducible assumption) | (with_reducible refine cell_up c1 ?_) | (with_reducible refine cell_up c2 ?_) | (with_reducible refine cell_up c3 ?_) | (with_reducible refine cell_up c4 ?_) | (with_reducible refine cell_up c5 ?_) | (with_reducible refine cell_up c6 ?_)) <;> (repeat' (first | (with_reducible exact Below.refl _ _) | (with_reducible assumption) | (with_reducible refine below_over ?_ _ _) | (with_reducible refine Lw.below_alloc ?_ _) | (with_reducible refine Below.drew ?_) | (with_reducible refine below_drewN ?_ _) | (with_reducible refine Below.setCell ?_ ?_ _) | go_size)))) (first
    | (go_at_call 144; (with_reducible refine (C.out _).mono ?_); rintro e w' ⟨g, rfl, hm, hg, hb2⟩; obtain ⟨bs, d, rfl⟩ := below_grow hb2; have HM := Lib.hid hm; clear hm hb2))
  all_goals go_wp2
  all_goals go_ret2
  all_goals exact ⟨g, rfl, HCO.out ▸ HM.out, hg, by (repeat' (first | (with_reducible exact Below.refl _ _) | (with_reducible assumption) | (with_reducible refine below_over ?_ _ _) | (with_reducible refine Lw.below_alloc ?_ _) | (with_reducible refine Below.drew ?_) | (with_reducible refine below_drewN ?_ _) | (with_reducible refine Below.setCell ?_ ?_ _) | go_size))⟩
set_option maxRecDepth 100000 in
set_option maxHeartbeats 4000000 in
theorem scolumns_no (p : Addr) (F : Nat → Prop) (c : Cfg) (l : Int) (L : List (List Int)) (k : Int) (w : World) (h : SK w p F c l L) (k0 : 0 ≤ k) (k1 : k ≤ 18446744073709551615) (hk : keys c l ≤ k) :
    Calls Tryz.prog 141 #[.pointer (some p), .int .u64 k] w fun e w' => e = .returned (.tuple #[.slice none 0 0, .int .i64 2]) ∧ Below w.heap.size w w' := by
  obtain ⟨hr, hok, hl0, hl1, b, gp, G, rfl, hb, hg, hGb, rfl⟩ := h
  have hbl := size_of_heap hb
  have c1 := grd_cell hb 1 (v := .int .i64 c.bt) rfl
  have c2 := grd_cell hb 2 (v := .int .i64 c.rw) rfl
  have c3 := grd_cell hb 3 (v := .int .i64 c.wd) rfl
  have c4 := grd_cell hb 4 (v := .int .i64 c.md) rfl
  have c5 := grd_cell hb 5 (v := .int .u64 c.sd) rfl
  have c6 := grd_cell hb 6 (v := .int .i64 l) rfl
  have C := Lib.hid (fun w => columns_no c l k w hok (by omega) (by have := hr.2.1; omega) hk)
  clear hk
  clear hb hg
  go_enter Tryz.func141, Tryz.ntmps141
  go_wp2
  go_region_held3 (fun w' => w'.cell? ⟨b, 1, none⟩ = some (.int .i64 c.bt) ∧ w'.cell? ⟨b, 2, none⟩ = some (.int .i64 c.rw) ∧ w'.cell? ⟨b, 3, none⟩ = some (.int .i64 c.wd) ∧ w'.cell? ⟨b, 4, none⟩ = some (.int .i64 c.md) ∧ w'.cell? ⟨b, 5, none⟩ = some (.int .u64 c.sd) ∧ w'.cell? ⟨b, 6, none⟩ = some (.int .i64 l)) (first | (refine ⟨?_, ?_, ?_, ?_, ?_, ?_⟩ <;> (first | (with_reducible assumption) | (with_reducible refine cell_up c1 ?_) | (with_reducible refine cell_up c2 ?_) | (with_reducible refine cell_up c3 ?_) | (with_reducible refine cell_up c4 ?_) | (with_reducible refine cell_up c5 ?_) | (with_reducible refine cell_up c6 ?_)) <;> (repeat' (first | (with_reducible exact Below.refl _ _) | (with_reducible assumption) | (with_reducible refine below_over ?_ _ _) | (with_reducible refine Lw.below_alloc ?_ _) | (with_reducible refine Below.drew ?_) | (with_reducible refine below_drewN ?_ _) | (with_reducible refine Below.setCell ?_ ?_ _) | go_size)))) (first
    | (go_at_call 144; (with_reducible refine (C.out _).mono ?_); rintro e w' ⟨rfl, hb2⟩; obtain ⟨bs, d, rfl⟩ := below_grow hb2; clear hb2))
  all_goals go_wp2
  all_goals go_ret2
  all_goals exact ⟨rfl, by (repeat' (first | (with_reducible exact Below.refl _ _) | (with_reducible assumption) | (with_reducible refine below_over ?_ _ _) | (with_reducible refine Lw.below_alloc ?_ _) | (with_reducible refine Below.drew ?_) | (with_reducible refine below_drewN ?_ _) | (with_reducible refine Below.setCell ?_ ?_ _) | go_size))⟩
set_option maxRecDepth 100000 in
set_option maxHeartbeats 4000000 in
theorem snew_no (c : Cfg) (l : Int) (w : World) (h : c.Ok) (l0 : -9223372036854775808 ≤ l) (l1 : l ≤ 9223372036854775807) (hk : keys c l = 0) :
    Calls Tryz.prog 55 #[.agg #[.int .i64 c.bt, .int .i64 c.rw, .int .i64 c.wd, .int .i64 c.md, .int .u64 c.sd], .int .i64 l] w fun e w' => e = .returned (.tuple #[.pointer none, .int .i64 1]) ∧ Below w.heap.size w w' := by
  have C := Lib.hid (fun w => keys_any c l w h l0 l1)
  rw [hk] at C
  clear hk
  go_enter Tryz.func55, Tryz.ntmps55
  go_wp2_with (go_at_call 32; (with_reducible refine (C.out _).mono ?_); rintro e w' ⟨rfl, hb⟩; obtain ⟨bs, d, rfl⟩ := below_grow hb; clear hb)
  go_ret2
  exact ⟨rfl, by (repeat' (first | (with_reducible exact Below.refl _ _) | (with_reducible assumption) | (with_reducible refine below_over ?_ _ _) | (with_reducible refine Lw.below_alloc ?_ _) | (with_reducible refine Below.drew ?_) | (with_reducible refine below_drewN ?_ _) | (with_reducible refine Below.setCell ?_ ?_ _) | go_size))⟩
set_option maxRecDepth 100000 in
set_option maxHeartbeats 4000000 in
theorem snew_yes (c : Cfg) (l : Int) (w : World) (h : c.Ok) (l0 : -9223372036854775808 ≤ l) (l1 : l ≤ 9223372036854775807) (hk : 1 ≤ keys c l) :
    Calls Tryz.prog 55 #[.agg #[.int .i64 c.bt, .int .i64 c.rw, .int .i64 c.wd, .int .i64 c.md, .int .u64 c.sd], .int .i64 l] w fun e w' => ∃ (p : Addr) (F : Nat → Prop), e = .returned (.tuple #[.pointer (some p), .int .i64 0]) ∧ SK w' p F c l (zerosL (rws c) (wds c)) ∧ (∀ k, F k → w.heap.size ≤ k) ∧ Below w.heap.size w w' := by
  have hr := keys_pos.1 hk
  have hw1 := rws_bd hr.1
  have hw2 := wds_bd hr.1
  have C := Lib.hid (fun w => keys_any c l w h l0 l1)
  have N := Lib.hid (fun w => new_any c.rw c.wd w h.r0 h.r1 h.w0 h.w1)
  have e1 : cl c.rw 8 = rws c := cl_of (by omega) (by omega)
  have e2 : cl c.wd 128 = wds c := cl_of (by omega) (by omega)
  rw [e1, e2] at N
  obtain ⟨K, hK⟩ : ∃ K, keys c l = K := ⟨_, rfl⟩
  rw [hK] at C hk
  have HR := Lib.hid hr
  clear hr hw1 hw2 e1 e2 hK
  go_enter Tryz.func55, Tryz.ntmps55
  go_wp2_with (go_at_call 32; (with_reducible refine (C.out _).mono ?_); rintro e w' ⟨rfl, hb⟩; obtain ⟨bs, d, rfl⟩ := below_grow hb; clear hb)
  obtain ⟨w1, hw1⟩ : ∃ w1, w1 = grow (w.alloc (.cells #[.int .i64 c.bt, .int .i64 c.rw, .int .i64 c.wd, .int .i64 c.md, .int .u64 c.sd] 24)) bs d := ⟨_, rfl⟩
  have HB1 : Hid (Below w.heap.size w w1) := Lib.hid (by rw [hw1]; (repeat' (first | (with_reducible exact Below.refl _ _) | (with_reducible assumption) | (with_reducible refine below_over ?_ _ _) | (with_reducible refine Lw.below_alloc ?_ _) | (with_reducible refine Below.drew ?_) | (with_reducible refine below_drewN ?_ _) | (with_reducible refine Below.setCell ?_ ?_ _) | go_size)))
  have x0 : w1.cell? ⟨w.heap.size, 0, none⟩ = some (.int .i64 c.bt) := by rw [hw1]; simp [go_sem]
  have x1 : w1.cell? ⟨w.heap.size, 1, none⟩ = some (.int .i64 c.rw) := by rw [hw1]; simp [go_sem]
  have x2 : w1.cell? ⟨w.heap.size, 2, none⟩ = some (.int .i64 c.wd) := by rw [hw1]; simp [go_sem]
  have x3 : w1.cell? ⟨w.heap.size, 3, none⟩ = some (.int .i64 c.md) := by rw [hw1]; simp [go_sem]
  have x4 : w1.cell? ⟨w.heap.size, 4, none⟩ = some (.int .u64 c.sd) := by rw [hw1]; simp [go_sem]
  rw [← hw1]
  clear hw1
  go_region_held3 (fun w' => w'.cell? ⟨w.heap.size, 0, none⟩ = some (.int .i64 c.bt) ∧ w'.cell? ⟨w.heap.size, 1, none⟩ = some (.int .i64 c.rw) ∧ w'.cell? ⟨w.heap.size, 2, none⟩ = some (.int .i64 c.wd) ∧ w'.cell? ⟨w.heap.size, 3, none⟩ = some (.int .i64 c.md) ∧ w'.cell? ⟨w.heap.size, 4, none⟩ = some (.int .u64 c.sd)) (first | (refine ⟨?_, ?_, ?_, ?_, ?_⟩ <;> (first | (with_reducible assumption) | (with_reducible refine cell_up x0 ?_) | (with_reducible refine cell_up x1 ?_) | (with_reducible refine cell_up x2 ?_) | (with_reducible refine cell_up x3 ?_) | (with_reducible refine cell_up x4 ?_)) <;> (repeat' (first | (with_reducible exact Below.refl _ _) | (with_reducible assumption) | (with_reducible refine below_over ?_ _ _) | (with_reducible refine Lw.below_alloc ?_ _) | (with_reducible refine Below.drew ?_) | (with_reducible refine below_drewN ?_ _) | (with_reducible refine Below.setCell ?_ ?_ _) | go_size)))) (first
    | (go_at_call 67; (with_reducible refine (N.out _).mono ?_); rintro e w2 ⟨gp, G, rfl, hg, hG, hb2⟩; obtain ⟨bs2, d2, rfl⟩ := below_grow hb2; have HG := Lib.hid hg; have HF := Lib.hid hG; have HB2 := Lib.hid hb2; clear hg hG hb2))
  all_goals go_wp2
  all_goals go_ret2
  have hgl := fun k (hk : G k) => (pgT gp G _ _ _).lt _ HG.out k hk
  rw [size_grow] at hgl
  have hn := heap_alloc_new (grow w1 bs2 d2) (.cells #[.pointer (some gp), .int .i64 c.bt, .int .i64 c.rw, .int .i64 c.wd, .int .i64 c.md, .int .u64 c.sd, .int .i64 l] 137)
  rw [size_grow] at hn
  have hs := HB1.out.size
  have hz : w1.drew.heap.size = w1.heap.size := rfl
  rw [hz] at hgl
  refine ⟨⟨w1.heap.size + bs2.size, 0, none⟩, fun k => k = w1.heap.size + bs2.size ∨ G k, rfl, ⟨HR.out.1, h, HR.out.2.1, HR.out.2.2, _, gp, G, rfl, hn, pg_alloc HG.out _, fun hk => by have := hgl _ hk; omega, rfl⟩, fun k hk => ?_, ?_⟩
  · rcases hk with rfl | hk
    · omega
    · have := HF.out k hk; rw [hz] at this; omega
  · exact (below_call (Below.drew HB1.out) HB2.out (Nat.le_refl _)).alloc (by rw [size_grow]; omega) _
set_option maxRecDepth 100000 in
set_option maxHeartbeats 4000000 in
theorem spoint_no (p : Addr) (F : Nat → Prop) (c : Cfg) (l : Int) (L : List (List Int)) (k : Int) (w : World) (h : SK w p F c l L) (k0 : 0 ≤ k) (k1 : k ≤ 18446744073709551615) (hk : keys c l ≤ k) :
    Calls Tryz.prog 139 #[.pointer (some p), .int .u64 k] w fun e w' => e = .returned (.tuple #[.int .i64 0, .int .i64 2]) ∧ Below w.heap.size w w' := by
  have CN := Lib.hid (scolumns_no p F c l L k w h k0 k1 hk)
  clear h
  go_enter Tryz.func139, Tryz.ntmps139
  go_wp2_with (go_at_call 141; (with_reducible refine CN.out.mono ?_); rintro e w1 ⟨rfl, hb1⟩; have HB1 := Lib.hid hb1; clear hb1)
  go_ret2
  exact ⟨rfl, HB1.out⟩
set_option maxRecDepth 100000 in
set_option maxHeartbeats 4000000 in
theorem supd_no (p : Addr) (F : Nat → Prop) (c : Cfg) (l : Int) (L : List (List Int)) (k : Int) (w : World) (h : SK w p F c l L) (k0 : 0 ≤ k) (k1 : k ≤ 18446744073709551615) (d : Int) (d0 : -9223372036854775808 ≤ d) (d1 : d ≤ 9223372036854775807) (hk : keys c l ≤ k) :
    Calls Tryz.prog 140 #[.pointer (some p), .int .u64 k, .int .i64 d] w fun e w' => e = .returned (.int .i64 2) ∧ Below w.heap.size w w' := by
  have CN := Lib.hid (scolumns_no p F c l L k w h k0 k1 hk)
  clear h
  go_enter Tryz.func140, Tryz.ntmps140
  go_wp2_with (go_at_call 141; (with_reducible refine CN.out.mono ?_); rintro e w1 ⟨rfl, hb1⟩; have HB1 := Lib.hid hb1; clear hb1)
  go_ret
  exact ⟨rfl, HB1.out⟩
theorem middle_yes (p : Addr) (F : Nat → Prop) (m n : Nat) (L : List (List Int)) (A : Option Addr) (N cap : Nat) (cols : List Int) (w : World) (h : PG w p F m n L) (hc : Rd .i64 w A cols) (hl : cols.length = N) (hN : N ≤ 1000) (hz : In64 cols) (hm : Meets m n cols) :
    Calls Tryz.prog 147 #[.pointer (some p), .slice A N cap] w fun e w' => e = .returned (.tuple #[.int .i64 (Ord.kv (named L cols) ((((named L cols).length : Int) - 1) / 2)), .int .i64 0]) ∧ Below w.heap.size w w' := by
  have C := middle_any p F m n L A N cap cols w h hc hl hN hz
  rw [(readOf_yes (L := L) hm).1, (readOf_yes (L := L) hm).2] at C
  exact C
theorem in64_cols (c : Cfg) (l k : Int) : In64 (cols c l k) := fun v hv => cols_in c l k v hv
set_option maxRecDepth 100000 in
set_option maxHeartbeats 4000000 in
theorem spoint_lin (p : Addr) (F : Nat → Prop) (c : Cfg) (l : Int) (L : List (List Int)) (k : Int) (w : World) (h : SK w p F c l L) (k0 : 0 ≤ k) (k1 : k ≤ 18446744073709551615) (hk : k < keys c l) (hm : c.md = 1) :
    Calls Tryz.prog 139 #[.pointer (some p), .int .u64 k] w fun e w' => e = .returned (.tuple #[.int .i64 (lea L (cols c l k)), .int .i64 0]) ∧ Below w.heap.size w w' := by
  have HS := Lib.hid h
  obtain ⟨hr, hok, hl0, hl1, b, gp, G, rfl, hb, hg, hGb, rfl⟩ := h
  have hbl := size_of_heap hb
  have c0w := grd_cell hb 0 (v := .pointer (some gp)) rfl
  have CY := Lib.hid (scolumns_yes _ _ c l L k w HS.out k0 k1 hk)
  have WY : Hid (∀ w', Below w.heap.size w w' → Calls Tryz.prog 143 #[.pointer (some ⟨b, 0, none⟩)] w' fun e w2 => e = .returned (.agg #[.func (.func 148) #[] #[], .func (.func 146) #[] #[], .bool true]) ∧ Below w'.heap.size w' w2) := Lib.hid (fun w' hb2 => way_lin _ _ c l L w' (HS.out.up hb2) hm)
  have hcl : (cols c l k).length = rws c := (cols_meet k0 hk).2.1
  have hrw := rws_bd hr
  have TL : Hid (∀ w' g, Below w.heap.size w w' → Ord.Mid w' g 0 (cols c l k) → Calls Tryz.prog 146 #[.pointer (some gp), .slice (some ⟨g, 0, none⟩) (rws c) (rws c)] w' fun e w2 => e = .returned (.tuple #[.int .i64 (lea L (cols c l k)), .int .i64 0]) ∧ Below w'.heap.size w' w2) := Lib.hid (fun w' g hb2 hmid => least_yes gp G _ _ L _ _ _ _ w' (pg_up hg hb2) hmid.rd hcl (by omega) (in64_cols c l k) (cols_meet k0 hk))
  obtain ⟨n, hn⟩ : ∃ n, rws c = n := ⟨_, rfl⟩
  obtain ⟨V, hV⟩ : ∃ V, lea L (cols c l k) = V := ⟨_, rfl⟩
  rw [hV] at TL ⊢
  rw [hn] at CY TL
  have hfd : ∀ w : World, (Instr.field 200 (.agg #[.func (.func 148) #[] #[], .func (.func 146) #[] #[], .bool true]) 1).run Tryz.prog w = .ok (.func (.func 146) #[] #[]) w := fun _ => by kernel_rfl
  clear hb hg hcl hrw hn hV hm hk
  go_enter Tryz.func139, Tryz.ntmps139
  go_wp2_with (go_at_call 141; (with_reducible refine CY.out.mono ?_); rintro e w1 ⟨g, rfl, hm1, hg1, hb1⟩; have HM1 := Lib.hid hm1; have HB1 := Lib.hid hb1; clear hm1 hb1)
  have c0 := cell_up c0w HB1.out
  have WY1 : Hid (∀ w', Below w1.heap.size w1 w' → _) := Lib.hid (fun w' hb2 => WY.out w' (below_call HB1.out hb2 (Nat.le_refl _)))
  have TL1 : Hid (∀ w', Below w1.heap.size w1 w' → _) := Lib.hid (fun w' hb2 => TL.out w' g (below_call HB1.out hb2 (Nat.le_refl _)) (HM1.out.up hb2))
  go_region_held3 (fun w' => w'.cell? ⟨b, 0, none⟩ = some (.pointer (some gp))) (first | (with_reducible assumption) | (with_reducible refine cell_up c0 ?_ <;> (repeat' (first | (with_reducible exact Below.refl _ _) | (with_reducible assumption) | (with_reducible refine below_over ?_ _ _) | (with_reducible refine Lw.below_alloc ?_ _) | (with_reducible refine Below.drew ?_) | (with_reducible refine below_drewN ?_ _) | (with_reducible refine Below.setCell ?_ ?_ _) | go_size)))) (first
    | (go_at_call 143; (with_reducible refine (WY1.out _ (by (repeat' (first | (with_reducible exact Below.refl _ _) | (with_reducible assumption) | (with_reducible refine below_over ?_ _ _) | (with_reducible refine Lw.below_alloc ?_ _) | (with_reducible refine Below.drew ?_) | (with_reducible refine below_drewN ?_ _) | (with_reducible refine Below.setCell ?_ ?_ _) | go_size)))).mono ?_); rintro e w' ⟨rfl, hb2⟩; obtain ⟨bs, d2, rfl⟩ := below_grow hb2; clear hb2)
    | (go_at_call 146; (with_reducible refine (TL1.out _ (by (repeat' (first | (with_reducible exact Below.refl _ _) | (with_reducible assumption) | (with_reducible refine below_over ?_ _ _) | (with_reducible refine Lw.below_alloc ?_ _) | (with_reducible refine Below.drew ?_) | (with_reducible refine below_drewN ?_ _) | (with_reducible refine Below.setCell ?_ ?_ _) | go_size)))).mono ?_); rintro e w' ⟨rfl, hb2⟩; obtain ⟨bs3, d3, rfl⟩ := below_grow hb2; clear hb2))
  all_goals go_wp2
  all_goals go_ret2
  all_goals exact ⟨rfl, below_call HB1.out (by (repeat' (first | (with_reducible exact Below.refl _ _) | (with_reducible assumption) | (with_reducible refine below_over ?_ _ _) | (with_reducible refine Lw.below_alloc ?_ _) | (with_reducible refine Below.drew ?_) | (with_reducible refine below_drewN ?_ _) | (with_reducible refine Below.setCell ?_ ?_ _) | go_size))) (Nat.le_refl _)⟩
set_option maxRecDepth 100000 in
set_option maxHeartbeats 4000000 in
theorem supd_lin (p : Addr) (F : Nat → Prop) (c : Cfg) (l : Int) (L : List (List Int)) (k : Int) (w : World) (h : SK w p F c l L) (k0 : 0 ≤ k) (k1 : k ≤ 18446744073709551615) (d : Int) (d0 : -9223372036854775808 ≤ d) (d1 : d ≤ 9223372036854775807) (hk : k < keys c l) (hm : c.md = 1) :
    Calls Tryz.prog 140 #[.pointer (some p), .int .u64 k, .int .i64 d] w fun e w' => e = .returned (.int .i64 (chCode (rws c) (wds c) L (cols c l k) d)) ∧ ∃ F', SK w' p F' c l (chRes (rws c) (wds c) L (cols c l k) d) ∧ Kept F w w' ∧ (∀ q, F' q → F q ∨ w.heap.size ≤ q) := by
  have HS := Lib.hid h
  obtain ⟨hr, hok, hl0, hl1, b, gp, G, rfl, hb, hg, hGb, rfl⟩ := h
  have hbl := size_of_heap hb
  have c0w := grd_cell hb 0 (v := .pointer (some gp)) rfl
  have CY := Lib.hid (scolumns_yes _ _ c l L k w HS.out k0 k1 hk)
  have WY : Hid (∀ w', Below w.heap.size w w' → Calls Tryz.prog 143 #[.pointer (some ⟨b, 0, none⟩)] w' fun e w2 => e = .returned (.agg #[.func (.func 148) #[] #[], .func (.func 146) #[] #[], .bool true]) ∧ Below w'.heap.size w' w2) := Lib.hid (fun w' hb2 => way_lin _ _ c l L w' (HS.out.up hb2) hm)
  have hcl : (cols c l k).length = rws c := (cols_meet k0 hk).2.1
  have hrw := rws_bd hr
  have TL : Hid (∀ w' g, Below w.heap.size w w' → Ord.Mid w' g 0 (cols c l k) → w.heap.size ≤ g → Calls Tryz.prog 148 #[.pointer (some gp), .slice (some ⟨g, 0, none⟩) (rws c) (rws c), .int .i64 d] w' fun e w2 => e = .returned (.int .i64 (chCode (rws c) (wds c) L (cols c l k) d)) ∧ ∃ G', PG w2 gp G' (rws c) (wds c) (chRes (rws c) (wds c) L (cols c l k) d) ∧ Kept G w w2 ∧ (∀ q, G' q → G q ∨ w.heap.size ≤ q)) := Lib.hid (fun w' g hb2 hmid hg2 => (change_any gp G _ _ L _ _ _ _ d w' (pg_up hg hb2) hmid.rd (fun a ha hGa => by injection ha with ha; subst ha; have := (pgT gp G _ _ L).lt w hg g hGa; omega) hcl (by omega) (in64_cols c l k) d0 d1).mono (fun e w2 ⟨e1, G', h1, h2, h3⟩ => ⟨e1, G', h1, (Kept.of_below hb2).trans h2 (fun q hq h => h), fun q hq => (h3 q hq).elim .inl (fun h => .inr (Nat.le_trans hb2.size h))⟩))
  have HT : Hid (∀ w' G', PG w' gp G' (rws c) (wds c) (chRes (rws c) (wds c) L (cols c l k) d) → Kept G w w' → (∀ k, G' k → G k ∨ w.heap.size ≤ k) → ∃ F', SK w' ⟨b, 0, none⟩ F' c l (chRes (rws c) (wds c) L (cols c l k) d) ∧ Kept (fun k => k = b ∨ G k) w w' ∧ (∀ q, F' q → (q = b ∨ G q) ∨ w.heap.size ≤ q)) := Lib.hid (fun w' G' h1 h2 h3 => sk_turn hr hok hl0 hl1 hb hGb h1 h2 h3)
  obtain ⟨n, hn⟩ : ∃ n, rws c = n := ⟨_, rfl⟩
  obtain ⟨V, hV⟩ : ∃ V, chCode (rws c) (wds c) L (cols c l k) d = V := ⟨_, rfl⟩
  obtain ⟨R, hR⟩ : ∃ R, chRes (rws c) (wds c) L (cols c l k) d = R := ⟨_, rfl⟩
  rw [hV, hR] at TL
  rw [hR] at HT
  rw [hV, hR]
  rw [hn] at CY TL HT
  have hfd : ∀ w : World, (Instr.field 200 (.agg #[.func (.func 148) #[] #[], .func (.func 146) #[] #[], .bool true]) 0).run Tryz.prog w = .ok (.func (.func 148) #[] #[]) w := fun _ => by kernel_rfl
  clear hb hg hcl hrw hn hV hR hm hk
  go_enter Tryz.func140, Tryz.ntmps140
  go_wp2_with (go_at_call 141; (with_reducible refine CY.out.mono ?_); rintro e w1 ⟨g, rfl, hm1, hg1, hb1⟩; have HM1 := Lib.hid hm1; have HB1 := Lib.hid hb1; clear hm1 hb1)
  have c0 := cell_up c0w HB1.out
  have WY1 : Hid (∀ w', Below w1.heap.size w1 w' → _) := Lib.hid (fun w' hb2 => WY.out w' (below_call HB1.out hb2 (Nat.le_refl _)))
  have TL1 : Hid (∀ w', Below w1.heap.size w1 w' → _) := Lib.hid (fun w' hb2 => TL.out w' g (below_call HB1.out hb2 (Nat.le_refl _)) (HM1.out.up hb2) hg1)
  go_region_held3 (fun w' => w'.cell? ⟨b, 0, none⟩ = some (.pointer (some gp))) (first | (with_reducible assumption) | (with_reducible refine cell_up c0 ?_ <;> (repeat' (first | (with_reducible exact Below.refl _ _) | (with_reducible assumption) | (with_reducible refine below_over ?_ _ _) | (with_reducible refine Lw.below_alloc ?_ _) | (with_reducible refine Below.drew ?_) | (with_reducible refine below_drewN ?_ _) | (with_reducible refine Below.setCell ?_ ?_ _) | go_size)))) (first
    | (go_at_call 143; (with_reducible refine (WY1.out _ (by (repeat' (first | (with_reducible exact Below.refl _ _) | (with_reducible assumption) | (with_reducible refine below_over ?_ _ _) | (with_reducible refine Lw.below_alloc ?_ _) | (with_reducible refine Below.drew ?_) | (with_reducible refine below_drewN ?_ _) | (with_reducible refine Below.setCell ?_ ?_ _) | go_size)))).mono ?_); rintro e w' ⟨rfl, hb2⟩; obtain ⟨bs, d2, rfl⟩ := below_grow hb2; clear hb2)
    | (go_at_call 148; (with_reducible refine (TL1.out _ (by (repeat' (first | (with_reducible exact Below.refl _ _) | (with_reducible assumption) | (with_reducible refine below_over ?_ _ _) | (with_reducible refine Lw.below_alloc ?_ _) | (with_reducible refine Below.drew ?_) | (with_reducible refine below_drewN ?_ _) | (with_reducible refine Below.setCell ?_ ?_ _) | go_size)))).mono ?_); rintro e w6 ⟨rfl, G6, hp6, hk6, hf6⟩; have HP6 := Lib.hid hp6; have HK6 := Lib.hid hk6; have HF6 := Lib.hid hf6; have x0 : w6.cell? ⟨b, 0, none⟩ = some (.pointer (some gp)) := hk6.cell c0w hGb; clear hp6 hk6 hf6))
  all_goals go_wp2
  all_goals go_ret
  all_goals exact ⟨rfl, HT.out _ _ HP6.out HK6.out HF6.out⟩
set_option maxRecDepth 100000 in
set_option maxHeartbeats 4000000 in
theorem spoint_con (p : Addr) (F : Nat → Prop) (c : Cfg) (l : Int) (L : List (List Int)) (k : Int) (w : World) (h : SK w p F c l L) (k0 : 0 ≤ k) (k1 : k ≤ 18446744073709551615) (hk : k < keys c l) (hm : c.md = 2) :
    Calls Tryz.prog 139 #[.pointer (some p), .int .u64 k] w fun e w' => e = .returned (.tuple #[.int .i64 (lea L (cols c l k)), .int .i64 0]) ∧ Below w.heap.size w w' := by
  have HS := Lib.hid h
  obtain ⟨hr, hok, hl0, hl1, b, gp, G, rfl, hb, hg, hGb, rfl⟩ := h
  have hbl := size_of_heap hb
  have c0w := grd_cell hb 0 (v := .pointer (some gp)) rfl
  have CY := Lib.hid (scolumns_yes _ _ c l L k w HS.out k0 k1 hk)
  have WY : Hid (∀ w', Below w.heap.size w w' → Calls Tryz.prog 143 #[.pointer (some ⟨b, 0, none⟩)] w' fun e w2 => e = .returned (.agg #[.func (.func 145) #[] #[], .func (.func 146) #[] #[], .bool false]) ∧ Below w'.heap.size w' w2) := Lib.hid (fun w' hb2 => way_con _ _ c l L w' (HS.out.up hb2) hm)
  have hcl : (cols c l k).length = rws c := (cols_meet k0 hk).2.1
  have hrw := rws_bd hr
  have TL : Hid (∀ w' g, Below w.heap.size w w' → Ord.Mid w' g 0 (cols c l k) → Calls Tryz.prog 146 #[.pointer (some gp), .slice (some ⟨g, 0, none⟩) (rws c) (rws c)] w' fun e w2 => e = .returned (.tuple #[.int .i64 (lea L (cols c l k)), .int .i64 0]) ∧ Below w'.heap.size w' w2) := Lib.hid (fun w' g hb2 hmid => least_yes gp G _ _ L _ _ _ _ w' (pg_up hg hb2) hmid.rd hcl (by omega) (in64_cols c l k) (cols_meet k0 hk))
  obtain ⟨n, hn⟩ : ∃ n, rws c = n := ⟨_, rfl⟩
  obtain ⟨V, hV⟩ : ∃ V, lea L (cols c l k) = V := ⟨_, rfl⟩
  rw [hV] at TL ⊢
  rw [hn] at CY TL
  have hfd : ∀ w : World, (Instr.field 200 (.agg #[.func (.func 145) #[] #[], .func (.func 146) #[] #[], .bool false]) 1).run Tryz.prog w = .ok (.func (.func 146) #[] #[]) w := fun _ => by kernel_rfl
  clear hb hg hcl hrw hn hV hm hk
  go_enter Tryz.func139, Tryz.ntmps139
  go_wp2_with (go_at_call 141; (with_reducible refine CY.out.mono ?_); rintro e w1 ⟨g, rfl, hm1, hg1, hb1⟩; have HM1 := Lib.hid hm1; have HB1 := Lib.hid hb1; clear hm1 hb1)
  have c0 := cell_up c0w HB1.out
  have WY1 : Hid (∀ w', Below w1.heap.size w1 w' → _) := Lib.hid (fun w' hb2 => WY.out w' (below_call HB1.out hb2 (Nat.le_refl _)))
  have TL1 : Hid (∀ w', Below w1.heap.size w1 w' → _) := Lib.hid (fun w' hb2 => TL.out w' g (below_call HB1.out hb2 (Nat.le_refl _)) (HM1.out.up hb2))
  go_region_held3 (fun w' => w'.cell? ⟨b, 0, none⟩ = some (.pointer (some gp))) (first | (with_reducible assumption) | (with_reducible refine cell_up c0 ?_ <;> (repeat' (first | (with_reducible exact Below.refl _ _) | (with_reducible assumption) | (with_reducible refine below_over ?_ _ _) | (with_reducible refine Lw.below_alloc ?_ _) | (with_reducible refine Below.drew ?_) | (with_reducible refine below_drewN ?_ _) | (with_reducible refine Below.setCell ?_ ?_ _) | go_size)))) (first
    | (go_at_call 143; (with_reducible refine (WY1.out _ (by (repeat' (first | (with_reducible exact Below.refl _ _) | (with_reducible assumption) | (with_reducible refine below_over ?_ _ _) | (with_reducible refine Lw.below_alloc ?_ _) | (with_reducible refine Below.drew ?_) | (with_reducible refine below_drewN ?_ _) | (with_reducible refine Below.setCell ?_ ?_ _) | go_size)))).mono ?_); rintro e w' ⟨rfl, hb2⟩; obtain ⟨bs, d2, rfl⟩ := below_grow hb2; clear hb2)
    | (go_at_call 146; (with_reducible refine (TL1.out _ (by (repeat' (first | (with_reducible exact Below.refl _ _) | (with_reducible assumption) | (with_reducible refine below_over ?_ _ _) | (with_reducible refine Lw.below_alloc ?_ _) | (with_reducible refine Below.drew ?_) | (with_reducible refine below_drewN ?_ _) | (with_reducible refine Below.setCell ?_ ?_ _) | go_size)))).mono ?_); rintro e w' ⟨rfl, hb2⟩; obtain ⟨bs3, d3, rfl⟩ := below_grow hb2; clear hb2))
  all_goals go_wp2
  all_goals go_ret2
  all_goals exact ⟨rfl, below_call HB1.out (by (repeat' (first | (with_reducible exact Below.refl _ _) | (with_reducible assumption) | (with_reducible refine below_over ?_ _ _) | (with_reducible refine Lw.below_alloc ?_ _) | (with_reducible refine Below.drew ?_) | (with_reducible refine below_drewN ?_ _) | (with_reducible refine Below.setCell ?_ ?_ _) | go_size))) (Nat.le_refl _)⟩
set_option maxRecDepth 100000 in
set_option maxHeartbeats 4000000 in
theorem supd_con (p : Addr) (F : Nat → Prop) (c : Cfg) (l : Int) (L : List (List Int)) (k : Int) (w : World) (h : SK w p F c l L) (k0 : 0 ≤ k) (k1 : k ≤ 18446744073709551615) (d : Int) (d0 : -9223372036854775808 ≤ d) (d1 : d ≤ 9223372036854775807) (hk : k < keys c l) (hm : c.md = 2) :
    Calls Tryz.prog 140 #[.pointer (some p), .int .u64 k, .int .i64 d] w fun e w' => e = .returned (.int .i64 (rsCode (rws c) (wds c) L (cols c l k) d)) ∧ ∃ F', SK w' p F' c l (rsRes (rws c) (wds c) L (cols c l k) d) ∧ Kept F w w' ∧ (∀ q, F' q → F q ∨ w.heap.size ≤ q) := by
  have HS := Lib.hid h
  obtain ⟨hr, hok, hl0, hl1, b, gp, G, rfl, hb, hg, hGb, rfl⟩ := h
  have hbl := size_of_heap hb
  have c0w := grd_cell hb 0 (v := .pointer (some gp)) rfl
  have CY := Lib.hid (scolumns_yes _ _ c l L k w HS.out k0 k1 hk)
  have WY : Hid (∀ w', Below w.heap.size w w' → Calls Tryz.prog 143 #[.pointer (some ⟨b, 0, none⟩)] w' fun e w2 => e = .returned (.agg #[.func (.func 145) #[] #[], .func (.func 146) #[] #[], .bool false]) ∧ Below w'.heap.size w' w2) := Lib.hid (fun w' hb2 => way_con _ _ c l L w' (HS.out.up hb2) hm)
  have hcl : (cols c l k).length = rws c := (cols_meet k0 hk).2.1
  have hrw := rws_bd hr
  have TL : Hid (∀ w' g, Below w.heap.size w w' → Ord.Mid w' g 0 (cols c l k) → w.heap.size ≤ g → Calls Tryz.prog 145 #[.pointer (some gp), .slice (some ⟨g, 0, none⟩) (rws c) (rws c), .int .i64 d] w' fun e w2 => e = .returned (.int .i64 (rsCode (rws c) (wds c) L (cols c l k) d)) ∧ ∃ G', PG w2 gp G' (rws c) (wds c) (rsRes (rws c) (wds c) L (cols c l k) d) ∧ Kept G w w2 ∧ (∀ q, G' q → G q ∨ w.heap.size ≤ q)) := Lib.hid (fun w' g hb2 hmid hg2 => (raise_any gp G _ _ L _ _ _ _ d w' (pg_up hg hb2) hmid.rd (fun a ha hGa => by injection ha with ha; subst ha; have := (pgT gp G _ _ L).lt w hg g hGa; omega) hcl (by omega) (in64_cols c l k) d0 d1).mono (fun e w2 ⟨e1, G', h1, h2, h3⟩ => ⟨e1, G', h1, (Kept.of_below hb2).trans h2 (fun q hq h => h), fun q hq => (h3 q hq).elim .inl (fun h => .inr (Nat.le_trans hb2.size h))⟩))
  have HT : Hid (∀ w' G', PG w' gp G' (rws c) (wds c) (rsRes (rws c) (wds c) L (cols c l k) d) → Kept G w w' → (∀ k, G' k → G k ∨ w.heap.size ≤ k) → ∃ F', SK w' ⟨b, 0, none⟩ F' c l (rsRes (rws c) (wds c) L (cols c l k) d) ∧ Kept (fun k => k = b ∨ G k) w w' ∧ (∀ q, F' q → (q = b ∨ G q) ∨ w.heap.size ≤ q)) := Lib.hid (fun w' G' h1 h2 h3 => sk_turn hr hok hl0 hl1 hb hGb h1 h2 h3)
  obtain ⟨n, hn⟩ : ∃ n, rws c = n := ⟨_, rfl⟩
  obtain ⟨V, hV⟩ : ∃ V, rsCode (rws c) (wds c) L (cols c l k) d = V := ⟨_, rfl⟩
  obtain ⟨R, hR⟩ : ∃ R, rsRes (rws c) (wds c) L (cols c l k) d = R := ⟨_, rfl⟩
  rw [hV, hR] at TL
  rw [hR] at HT
  rw [hV, hR]
  rw [hn] at CY TL HT
  have hfd : ∀ w : World, (Instr.field 200 (.agg #[.func (.func 145) #[] #[], .func (.func 146) #[] #[], .bool false]) 0).run Tryz.prog w = .ok (.func (.func 145) #[] #[]) w := fun _ => by kernel_rfl
  clear hb hg hcl hrw hn hV hR hm hk
  go_enter Tryz.func140, Tryz.ntmps140
  go_wp2_with (go_at_call 141; (with_reducible refine CY.out.mono ?_); rintro e w1 ⟨g, rfl, hm1, hg1, hb1⟩; have HM1 := Lib.hid hm1; have HB1 := Lib.hid hb1; clear hm1 hb1)
  have c0 := cell_up c0w HB1.out
  have WY1 : Hid (∀ w', Below w1.heap.size w1 w' → _) := Lib.hid (fun w' hb2 => WY.out w' (below_call HB1.out hb2 (Nat.le_refl _)))
  have TL1 : Hid (∀ w', Below w1.heap.size w1 w' → _) := Lib.hid (fun w' hb2 => TL.out w' g (below_call HB1.out hb2 (Nat.le_refl _)) (HM1.out.up hb2) hg1)
  go_region_held3 (fun w' => w'.cell? ⟨b, 0, none⟩ = some (.pointer (some gp))) (first | (with_reducible assumption) | (with_reducible refine cell_up c0 ?_ <;> (repeat' (first | (with_reducible exact Below.refl _ _) | (with_reducible assumption) | (with_reducible refine below_over ?_ _ _) | (with_reducible refine Lw.below_alloc ?_ _) | (with_reducible refine Below.drew ?_) | (with_reducible refine below_drewN ?_ _) | (with_reducible refine Below.setCell ?_ ?_ _) | go_size)))) (first
    | (go_at_call 143; (with_reducible refine (WY1.out _ (by (repeat' (first | (with_reducible exact Below.refl _ _) | (with_reducible assumption) | (with_reducible refine below_over ?_ _ _) | (with_reducible refine Lw.below_alloc ?_ _) | (with_reducible refine Below.drew ?_) | (with_reducible refine below_drewN ?_ _) | (with_reducible refine Below.setCell ?_ ?_ _) | go_size)))).mono ?_); rintro e w' ⟨rfl, hb2⟩; obtain ⟨bs, d2, rfl⟩ := below_grow hb2; clear hb2)
    | (go_at_call 145; (with_reducible refine (TL1.out _ (by (repeat' (first | (with_reducible exact Below.refl _ _) | (with_reducible assumption) | (with_reducible refine below_over ?_ _ _) | (with_reducible refine Lw.below_alloc ?_ _) | (with_reducible refine Below.drew ?_) | (with_reducible refine below_drewN ?_ _) | (with_reducible refine Below.setCell ?_ ?_ _) | go_size)))).mono ?_); rintro e w6 ⟨rfl, G6, hp6, hk6, hf6⟩; have HP6 := Lib.hid hp6; have HK6 := Lib.hid hk6; have HF6 := Lib.hid hf6; have x0 : w6.cell? ⟨b, 0, none⟩ = some (.pointer (some gp)) := hk6.cell c0w hGb; clear hp6 hk6 hf6))
  all_goals go_wp2
  all_goals go_ret
  all_goals exact ⟨rfl, HT.out _ _ HP6.out HK6.out HF6.out⟩
set_option maxRecDepth 100000 in
set_option maxHeartbeats 4000000 in
theorem spoint_med (p : Addr) (F : Nat → Prop) (c : Cfg) (l : Int) (L : List (List Int)) (k : Int) (w : World) (h : SK w p F c l L) (k0 : 0 ≤ k) (k1 : k ≤ 18446744073709551615) (hk : k < keys c l) (hm : c.md = 3) :
    Calls Tryz.prog 139 #[.pointer (some p), .int .u64 k] w fun e w' => e = .returned (.tuple #[.int .i64 (Ord.kv (named L (cols c l k)) ((((named L (cols c l k)).length : Int) - 1) / 2)), .int .i64 0]) ∧ Below w.heap.size w w' := by
  have HS := Lib.hid h
  obtain ⟨hr, hok, hl0, hl1, b, gp, G, rfl, hb, hg, hGb, rfl⟩ := h
  have hbl := size_of_heap hb
  have c0w := grd_cell hb 0 (v := .pointer (some gp)) rfl
  have CY := Lib.hid (scolumns_yes _ _ c l L k w HS.out k0 k1 hk)
  have WY : Hid (∀ w', Below w.heap.size w w' → Calls Tryz.prog 143 #[.pointer (some ⟨b, 0, none⟩)] w' fun e w2 => e = .returned (.agg #[.func (.func 148) #[] #[], .func (.func 147) #[] #[], .bool true]) ∧ Below w'.heap.size w' w2) := Lib.hid (fun w' hb2 => way_med _ _ c l L w' (HS.out.up hb2) hm)
  have hcl : (cols c l k).length = rws c := (cols_meet k0 hk).2.1
  have hrw := rws_bd hr
  have TL : Hid (∀ w' g, Below w.heap.size w w' → Ord.Mid w' g 0 (cols c l k) → Calls Tryz.prog 147 #[.pointer (some gp), .slice (some ⟨g, 0, none⟩) (rws c) (rws c)] w' fun e w2 => e = .returned (.tuple #[.int .i64 (Ord.kv (named L (cols c l k)) ((((named L (cols c l k)).length : Int) - 1) / 2)), .int .i64 0]) ∧ Below w'.heap.size w' w2) := Lib.hid (fun w' g hb2 hmid => middle_yes gp G _ _ L _ _ _ _ w' (pg_up hg hb2) hmid.rd hcl (by omega) (in64_cols c l k) (cols_meet k0 hk))
  obtain ⟨n, hn⟩ : ∃ n, rws c = n := ⟨_, rfl⟩
  obtain ⟨V, hV⟩ : ∃ V, Ord.kv (named L (cols c l k)) ((((named L (cols c l k)).length : Int) - 1) / 2) = V := ⟨_, rfl⟩
  rw [hV] at TL ⊢
  rw [hn] at CY TL
  have hfd : ∀ w : World, (Instr.field 200 (.agg #[.func (.func 148) #[] #[], .func (.func 147) #[] #[], .bool true]) 1).run Tryz.prog w = .ok (.func (.func 147) #[] #[]) w := fun _ => by kernel_rfl
  clear hb hg hcl hrw hn hV hm hk
  go_enter Tryz.func139, Tryz.ntmps139
  go_wp2_with (go_at_call 141; (with_reducible refine CY.out.mono ?_); rintro e w1 ⟨g, rfl, hm1, hg1, hb1⟩; have HM1 := Lib.hid hm1; have HB1 := Lib.hid hb1; clear hm1 hb1)
  have c0 := cell_up c0w HB1.out
  have WY1 : Hid (∀ w', Below w1.heap.size w1 w' → _) := Lib.hid (fun w' hb2 => WY.out w' (below_call HB1.out hb2 (Nat.le_refl _)))
  have TL1 : Hid (∀ w', Below w1.heap.size w1 w' → _) := Lib.hid (fun w' hb2 => TL.out w' g (below_call HB1.out hb2 (Nat.le_refl _)) (HM1.out.up hb2))
  go_region_held3 (fun w' => w'.cell? ⟨b, 0, none⟩ = some (.pointer (some gp))) (first | (with_reducible assumption) | (with_reducible refine cell_up c0 ?_ <;> (repeat' (first | (with_reducible exact Below.refl _ _) | (with_reducible assumption) | (with_reducible refine below_over ?_ _ _) | (with_reducible refine Lw.below_alloc ?_ _) | (with_reducible refine Below.drew ?_) | (with_reducible refine below_drewN ?_ _) | (with_reducible refine Below.setCell ?_ ?_ _) | go_size)))) (first
    | (go_at_call 143; (with_reducible refine (WY1.out _ (by (repeat' (first | (with_reducible exact Below.refl _ _) | (with_reducible assumption) | (with_reducible refine below_over ?_ _ _) | (with_reducible refine Lw.below_alloc ?_ _) | (with_reducible refine Below.drew ?_) | (with_reducible refine below_drewN ?_ _) | (with_reducible refine Below.setCell ?_ ?_ _) | go_size)))).mono ?_); rintro e w' ⟨rfl, hb2⟩; obtain ⟨bs, d2, rfl⟩ := below_grow hb2; clear hb2)
    | (go_at_call 147; (with_reducible refine (TL1.out _ (by (repeat' (first | (with_reducible exact Below.refl _ _) | (with_reducible assumption) | (with_reducible refine below_over ?_ _ _) | (with_reducible refine Lw.below_alloc ?_ _) | (with_reducible refine Below.drew ?_) | (with_reducible refine below_drewN ?_ _) | (with_reducible refine Below.setCell ?_ ?_ _) | go_size)))).mono ?_); rintro e w' ⟨rfl, hb2⟩; obtain ⟨bs3, d3, rfl⟩ := below_grow hb2; clear hb2))
  all_goals go_wp2
  all_goals go_ret2
  all_goals exact ⟨rfl, below_call HB1.out (by (repeat' (first | (with_reducible exact Below.refl _ _) | (with_reducible assumption) | (with_reducible refine below_over ?_ _ _) | (with_reducible refine Lw.below_alloc ?_ _) | (with_reducible refine Below.drew ?_) | (with_reducible refine below_drewN ?_ _) | (with_reducible refine Below.setCell ?_ ?_ _) | go_size))) (Nat.le_refl _)⟩
set_option maxRecDepth 100000 in
set_option maxHeartbeats 4000000 in
theorem supd_med (p : Addr) (F : Nat → Prop) (c : Cfg) (l : Int) (L : List (List Int)) (k : Int) (w : World) (h : SK w p F c l L) (k0 : 0 ≤ k) (k1 : k ≤ 18446744073709551615) (d : Int) (d0 : -9223372036854775808 ≤ d) (d1 : d ≤ 9223372036854775807) (hk : k < keys c l) (hm : c.md = 3) :
    Calls Tryz.prog 140 #[.pointer (some p), .int .u64 k, .int .i64 d] w fun e w' => e = .returned (.int .i64 (chCode (rws c) (wds c) L (cols c l k) d)) ∧ ∃ F', SK w' p F' c l (chRes (rws c) (wds c) L (cols c l k) d) ∧ Kept F w w' ∧ (∀ q, F' q → F q ∨ w.heap.size ≤ q) := by
  have HS := Lib.hid h
  obtain ⟨hr, hok, hl0, hl1, b, gp, G, rfl, hb, hg, hGb, rfl⟩ := h
  have hbl := size_of_heap hb
  have c0w := grd_cell hb 0 (v := .pointer (some gp)) rfl
  have CY := Lib.hid (scolumns_yes _ _ c l L k w HS.out k0 k1 hk)
  have WY : Hid (∀ w', Below w.heap.size w w' → Calls Tryz.prog 143 #[.pointer (some ⟨b, 0, none⟩)] w' fun e w2 => e = .returned (.agg #[.func (.func 148) #[] #[], .func (.func 147) #[] #[], .bool true]) ∧ Below w'.heap.size w' w2) := Lib.hid (fun w' hb2 => way_med _ _ c l L w' (HS.out.up hb2) hm)
  have hcl : (cols c l k).length = rws c := (cols_meet k0 hk).2.1
  have hrw := rws_bd hr
  have TL : Hid (∀ w' g, Below w.heap.size w w' → Ord.Mid w' g 0 (cols c l k) → w.heap.size ≤ g → Calls Tryz.prog 148 #[.pointer (some gp), .slice (some ⟨g, 0, none⟩) (rws c) (rws c), .int .i64 d] w' fun e w2 => e = .returned (.int .i64 (chCode (rws c) (wds c) L (cols c l k) d)) ∧ ∃ G', PG w2 gp G' (rws c) (wds c) (chRes (rws c) (wds c) L (cols c l k) d) ∧ Kept G w w2 ∧ (∀ q, G' q → G q ∨ w.heap.size ≤ q)) := Lib.hid (fun w' g hb2 hmid hg2 => (change_any gp G _ _ L _ _ _ _ d w' (pg_up hg hb2) hmid.rd (fun a ha hGa => by injection ha with ha; subst ha; have := (pgT gp G _ _ L).lt w hg g hGa; omega) hcl (by omega) (in64_cols c l k) d0 d1).mono (fun e w2 ⟨e1, G', h1, h2, h3⟩ => ⟨e1, G', h1, (Kept.of_below hb2).trans h2 (fun q hq h => h), fun q hq => (h3 q hq).elim .inl (fun h => .inr (Nat.le_trans hb2.size h))⟩))
  have HT : Hid (∀ w' G', PG w' gp G' (rws c) (wds c) (chRes (rws c) (wds c) L (cols c l k) d) → Kept G w w' → (∀ k, G' k → G k ∨ w.heap.size ≤ k) → ∃ F', SK w' ⟨b, 0, none⟩ F' c l (chRes (rws c) (wds c) L (cols c l k) d) ∧ Kept (fun k => k = b ∨ G k) w w' ∧ (∀ q, F' q → (q = b ∨ G q) ∨ w.heap.size ≤ q)) := Lib.hid (fun w' G' h1 h2 h3 => sk_turn hr hok hl0 hl1 hb hGb h1 h2 h3)
  obtain ⟨n, hn⟩ : ∃ n, rws c = n := ⟨_, rfl⟩
  obtain ⟨V, hV⟩ : ∃ V, chCode (rws c) (wds c) L (cols c l k) d = V := ⟨_, rfl⟩
  obtain ⟨R, hR⟩ : ∃ R, chRes (rws c) (wds c) L (cols c l k) d = R := ⟨_, rfl⟩
  rw [hV, hR] at TL
  rw [hR] at HT
  rw [hV, hR]
  rw [hn] at CY TL HT
  have hfd : ∀ w : World, (Instr.field 200 (.agg #[.func (.func 148) #[] #[], .func (.func 147) #[] #[], .bool true]) 0).run Tryz.prog w = .ok (.func (.func 148) #[] #[]) w := fun _ => by kernel_rfl
  clear hb hg hcl hrw hn hV hR hm hk
  go_enter Tryz.func140, Tryz.ntmps140
  go_wp2_with (go_at_call 141; (with_reducible refine CY.out.mono ?_); rintro e w1 ⟨g, rfl, hm1, hg1, hb1⟩; have HM1 := Lib.hid hm1; have HB1 := Lib.hid hb1; clear hm1 hb1)
  have c0 := cell_up c0w HB1.out
  have WY1 : Hid (∀ w', Below w1.heap.size w1 w' → _) := Lib.hid (fun w' hb2 => WY.out w' (below_call HB1.out hb2 (Nat.le_refl _)))
  have TL1 : Hid (∀ w', Below w1.heap.size w1 w' → _) := Lib.hid (fun w' hb2 => TL.out w' g (below_call HB1.out hb2 (Nat.le_refl _)) (HM1.out.up hb2) hg1)
  go_region_held3 (fun w' => w'.cell? ⟨b, 0, none⟩ = some (.pointer (some gp))) (first | (with_reducible assumption) | (with_reducible refine cell_up c0 ?_ <;> (repeat' (first | (with_reducible exact Below.refl _ _) | (with_reducible assumption) | (with_reducible refine below_over ?_ _ _) | (with_reducible refine Lw.below_alloc ?_ _) | (with_reducible refine Below.drew ?_) | (with_reducible refine below_drewN ?_ _) | (with_reducible refine Below.setCell ?_ ?_ _) | go_size)))) (first
    | (go_at_call 143; (with_reducible refine (WY1.out _ (by (repeat' (first | (with_reducible exact Below.refl _ _) | (with_reducible assumption) | (with_reducible refine below_over ?_ _ _) | (with_reducible refine Lw.below_alloc ?_ _) | (with_reducible refine Below.drew ?_) | (with_reducible refine below_drewN ?_ _) | (with_reducible refine Below.setCell ?_ ?_ _) | go_size)))).mono ?_); rintro e w' ⟨rfl, hb2⟩; obtain ⟨bs, d2, rfl⟩ := below_grow hb2; clear hb2)
    | (go_at_call 148; (with_reducible refine (TL1.out _ (by (repeat' (first | (with_reducible exact Below.refl _ _) | (with_reducible assumption) | (with_reducible refine below_over ?_ _ _) | (with_reducible refine Lw.below_alloc ?_ _) | (with_reducible refine Below.drew ?_) | (with_reducible refine below_drewN ?_ _) | (with_reducible refine Below.setCell ?_ ?_ _) | go_size)))).mono ?_); rintro e w6 ⟨rfl, G6, hp6, hk6, hf6⟩; have HP6 := Lib.hid hp6; have HK6 := Lib.hid hk6; have HF6 := Lib.hid hf6; have x0 : w6.cell? ⟨b, 0, none⟩ = some (.pointer (some gp)) := hk6.cell c0w hGb; clear hp6 hk6 hf6))
  all_goals go_wp2
  all_goals go_ret
  all_goals exact ⟨rfl, HT.out _ _ HP6.out HK6.out HF6.out⟩
theorem spoint_any (p : Addr) (F : Nat → Prop) (c : Cfg) (l : Int) (L : List (List Int)) (k : Int) (w : World) (h : SK w p F c l L) (k0 : 0 ≤ k) (k1 : k ≤ 18446744073709551615) :
    Calls Tryz.prog 139 #[.pointer (some p), .int .u64 k] w fun e w' => e = .returned (.tuple #[.int .i64 (ptVal c l L k), .int .i64 (ptCode c l k)]) ∧ Below w.heap.size w w' := by
  unfold ptVal ptCode
  by_cases hk : keys c l ≤ k
  · rw [if_pos hk, if_pos hk]
    exact spoint_no p F c l L k w h k0 k1 hk
  rw [if_neg hk, if_neg hk]
  have hr := h.1
  have h3 : c.md = 1 ∨ c.md = 2 ∨ c.md = 3 := by have := hr.2.2.2.2.2.2; omega
  rcases h3 with h3 | h3 | h3
  · rw [if_neg (by omega)]; exact spoint_lin p F c l L k w h k0 k1 (by omega) h3
  · rw [if_neg (by omega)]; exact spoint_con p F c l L k w h k0 k1 (by omega) h3
  · rw [if_pos h3]; exact spoint_med p F c l L k w h k0 k1 (by omega) h3
theorem supd_any (p : Addr) (F : Nat → Prop) (c : Cfg) (l : Int) (L : List (List Int)) (k d : Int) (w : World) (h : SK w p F c l L) (k0 : 0 ≤ k) (k1 : k ≤ 18446744073709551615) (d0 : -9223372036854775808 ≤ d) (d1 : d ≤ 9223372036854775807) :
    Calls Tryz.prog 140 #[.pointer (some p), .int .u64 k, .int .i64 d] w fun e w' => e = .returned (.int .i64 (upCode c l L k d)) ∧ ∃ F', SK w' p F' c l (upRes c l L k d) ∧ Kept F w w' ∧ (∀ q, F' q → F q ∨ w.heap.size ≤ q) := by
  unfold upCode upRes
  by_cases hk : keys c l ≤ k
  · rw [if_pos hk, if_pos hk]
    exact (supd_no p F c l L k w h k0 k1 d d0 d1 hk).mono (fun e w' h2 => ⟨h2.1, F, h.up h2.2, Kept.of_below h2.2, fun q hq => .inl hq⟩)
  rw [if_neg hk, if_neg hk]
  have hr := h.1
  have h3 : c.md = 1 ∨ c.md = 2 ∨ c.md = 3 := by have := hr.2.2.2.2.2.2; omega
  rcases h3 with h3 | h3 | h3
  · rw [if_neg (by omega), if_neg (by omega)]; exact supd_lin p F c l L k w h k0 k1 d d0 d1 (by omega) h3
  · rw [if_pos h3, if_pos h3]; exact supd_con p F c l L k w h k0 k1 d d0 d1 (by omega) h3
  · rw [if_neg (by omega), if_neg (by omega)]; exact supd_med p F c l L k w h k0 k1 d d0 d1 (by omega) h3
theorem sk_apart {w : World} {gp : Addr} {G : Nat → Prop} {m n : Nat} {L : List (List Int)} (h : PG w gp G m n L) (hmn : 0 < m * n) {b : Nat} {x : Addr} {vs : List Value} (hv : 3 ≤ vs.length) (hb : w.heap[b]? = some (.cells (Value.pointer (some x) :: vs).toArray 137 (0, 0))) : ¬ G b := by
  obtain ⟨hd, b1, g1, cap, rfl, h1, hm, -, -, -, rfl⟩ := h
  rintro (rfl | rfl)
  · rw [h1] at hb
    injection hb with hb
    injection hb with hb
    have := congrArg Array.size hb
    simp at this
    omega
  · obtain ⟨us, e, h2, h3⟩ := hm
    rw [h2] at hb
    injection hb with hb
    injection hb with hb
    have hl : 0 < L.flatten.length := by rw [flat_dims hd]; exact hmn
    have h4 := h3 0 _ (List.getElem?_eq_getElem hl)
    rw [hb] at h4
    simp at h4
set_option maxRecDepth 100000 in
set_option maxHeartbeats 4000000 in
theorem sload_no (p : Addr) (F : Nat → Prop) (c : Cfg) (l : Int) (L : List (List Int)) (A : Option Addr) (N cap : Nat) (zs : List Int) (w : World) (h : SK w p F c l L) (hc : Rd .i64 w A zs) (hl : zs.length = N) (hN : N ≤ 100000) (hne : N ≠ rws c * wds c) :
    Calls Tryz.prog 138 #[.pointer (some p), .slice A N cap] w fun e w' => e = .returned (.bool false) ∧ Below w.heap.size w w' := by
  obtain ⟨hr, hok, hl0, hl1, b, gp, G, rfl, hb, hg, hGb, rfl⟩ := h
  have hbl := size_of_heap hb
  have c0w := grd_cell hb 0 (v := .pointer (some gp)) rfl
  have hrw := rws_bd hr
  have hwd := wds_bd hr
  obtain ⟨m, hm⟩ : ∃ m, rws c = m := ⟨_, rfl⟩
  obtain ⟨n, hn⟩ : ∃ n, wds c = n := ⟨_, rfl⟩
  rw [hm, hn] at hg
  rw [hm] at hrw
  rw [hn] at hwd
  have HP : Hid (∀ d, PG (w.drewN d) gp G m n L) := Lib.hid (fun d => pg_drewN hg d)
  obtain ⟨q, hq⟩ : ∃ q, q = m * n := ⟨_, rfl⟩
  have hqi : (m : Int) * n = (q : Int) := by rw [hq]; simp
  have hq1 : q ≤ 1024 := by rw [hq]; exact Nat.le_trans (Nat.mul_le_mul hrw.2.1 hwd.2.1) (by decide)
  have hne2 : ((N : Int) == (q : Int)) = false := by simp; rw [hq, ← hm, ← hn]; exact_mod_cast hne
  clear hb hg hc hl hm hn hrw hwd hq hne
  go_enter Tryz.func138, Tryz.ntmps138
  go_wp2
  go_quiet (first
    | (go_at_call 142; with_reducible refine Calls.quiet_of_same (rows_eq gp G m n L _ (HP.out _)))
    | (go_at_call 126; with_reducible refine Calls.quiet_of_same (width_eq gp G m n L _ (HP.out _))))
  all_goals go_wp2
  all_goals go_ret
  all_goals exact ⟨rfl, by (repeat' (first | (with_reducible exact Below.refl _ _) | (with_reducible assumption) | (with_reducible refine below_over ?_ _ _) | (with_reducible refine Lw.below_alloc ?_ _) | (with_reducible refine Below.drew ?_) | (with_reducible refine below_drewN ?_ _) | (with_reducible refine Below.setCell ?_ ?_ _) | go_size))⟩
theorem div_at {j m n : Nat} (hn : 1 ≤ n) (hj : j < m * n) : (j / n) < m ∧ j % n < n ∧ (j / n) * n + j % n = j := by
  refine ⟨Nat.div_lt_of_lt_mul (by rw [Nat.mul_comm]; exact hj), Nat.mod_lt _ (by omega), ?_⟩
  rw [Nat.mul_comm]
  exact Nat.div_add_mod j n
set_option maxRecDepth 100000 in
set_option maxHeartbeats 4000000 in
theorem sload_yes (p : Addr) (F : Nat → Prop) (c : Cfg) (l : Int) (L : List (List Int)) (A : Option Addr) (N cap : Nat) (zs : List Int) (w : World) (h : SK w p F c l L) (hc : Rd .i64 w A zs) (hl : zs.length = N) (hN : N ≤ 100000) (hz : In64 zs) (hap : ∀ a, A = some a → ¬ F a.block) (he : N = rws c * wds c) :
    Calls Tryz.prog 138 #[.pointer (some p), .slice A N cap] w fun e w' => e = .returned (.bool true) ∧ ∃ F' L', SK w' p F' c l L' ∧ L'.flatten = zs ∧ Kept F w w' ∧ (∀ k, F' k → F k ∨ w.heap.size ≤ k) := by
  obtain ⟨hr, hok, hl0, hl1, b, gp, G, rfl, hb, hg, hGb, rfl⟩ := h
  have hbl := size_of_heap hb
  have c0w := grd_cell hb 0 (v := .pointer (some gp)) rfl
  have hrw := rws_bd hr
  have hwd := wds_bd hr
  obtain ⟨m, hm⟩ : ∃ m, rws c = m := ⟨_, rfl⟩
  obtain ⟨n, hn⟩ : ∃ n, wds c = n := ⟨_, rfl⟩
  rw [hm, hn] at hg
  rw [hm] at hrw
  rw [hn] at hwd
  have HP : Hid (∀ d, PG (w.drewN d) gp G m n L) := Lib.hid (fun d => pg_drewN hg d)
  obtain ⟨q, hq⟩ : ∃ q, q = m * n := ⟨_, rfl⟩
  have hqi : (m : Int) * n = (q : Int) := by rw [hq]; simp
  have hq1 : q ≤ 1024 := by rw [hq]; exact Nat.le_trans (Nat.mul_le_mul hrw.2.1 hwd.2.1) (by decide)
  have hNq : N = q := by rw [hq, ← hm, ← hn]; exact he
  subst hNq
  have hN1 : 1 ≤ N := by rw [hq]; exact Nat.mul_pos (by omega) (by omega)
  obtain ⟨a, rfl⟩ := hc.some_of (by omega)
  have HT : Hid (∀ w' G' L', PG w' gp G' m n L' → Kept G w w' → (∀ k, G' k → G k ∨ w.heap.size ≤ k) → ∃ F', SK w' ⟨b, 0, none⟩ F' c l L' ∧ Kept (fun k => k = b ∨ G k) w w' ∧ (∀ q, F' q → (q = b ∨ G q) ∨ w.heap.size ≤ q)) := Lib.hid (fun w' G' L' h1 h2 h3 => sk_turn hr hok hl0 hl1 hb hGb (by rw [hm, hn]; exact h1) h2 h3)
  have HG := Lib.hid hg
  have HC := Lib.hid hc
  have HL := Lib.hid hl
  have HZ := Lib.hid hz
  have HGB := Lib.hid hGb
  have hFL : L.flatten.length = N := by rw [flat_dims hg.1, hq]
  have HFL := Lib.hid hFL
  have HQ := Lib.hid hq
  have hn1 : 1 ≤ n := hwd.1
  have hm8 : m ≤ 8 := hrw.2.1
  have hn128 : n ≤ 128 := hwd.2.1
  have hnz : ((n : Int) == 0) = false := by simp; omega
  have hnz2 : ¬ (n : Int) = 0 := by omega
  have hnz3 : ¬ n = 0 := by omega
  have hapG : ¬ G a.block := fun hk => hap a rfl (.inr hk)
  clear hb hg hc hl hm hn hrw hwd hq hz hGb hFL hap he
  go_enter Tryz.func138, Tryz.ntmps138
  go_wp2
  go_quiet (first
    | (go_at_call 142; with_reducible refine Calls.quiet_of_same (rows_eq gp G m n L _ (HP.out _)))
    | (go_at_call 126; with_reducible refine Calls.quiet_of_same (width_eq gp G m n L _ (HP.out _))))
  all_goals go_wp2
  clear hqi
  go_loopw [23] (fun i wr => ∃ (j : Nat), j ≤ N ∧ i = .int .i64 j ∧ ∃ Gj Lj, PG wr gp Gj m n Lj ∧ Lj.flatten = upto2 L.flatten zs j ∧ Kept G w wr ∧ (∀ k, Gj k → G k ∨ w.heap.size ≤ k)) (fun i _ => N - (intOf i).toNat)
  case atStart => exact ⟨0, Nat.zero_le _, rfl, G, L, HP.out 1, by rw [upto2_start], (Kept.refl G w).drewN _, fun k hk => .inl hk⟩
  case round =>
    obtain ⟨j, hj, rfl, Gj, Lj, hpg, hfl, hk, hgj⟩ := hrel
    have HPj := Lib.hid hpg
    have HFj := Lib.hid hfl
    have HKj := Lib.hid hk
    have HGj := Lib.hid hgj
    clear hpg hfl hk hgj
    by_cases hlt : j < N
    · obtain ⟨z, hz⟩ : ∃ z, zs[j]? = some z := ⟨_, List.getElem?_eq_getElem (by rw [HL.out]; exact hlt)⟩
      have zb := HZ.out.at hz
      have c1 := HKj.out.cell (HC.out.at hz) (by have e : (a.add j).block = a.block := by { unfold Addr.add; split <;> rfl }
                                                 rw [e]; exact hapG)
      have c0 := HKj.out.cell c0w HGB.out
      obtain ⟨dv1, dv2, dv3⟩ := div_at (m := m) (n := n) (j := j) hn1 (HQ.out ▸ hlt)
      obtain ⟨r, hr9⟩ : ∃ r, r = j / n := ⟨_, rfl⟩
      obtain ⟨v, hv9⟩ : ∃ v, v = j % n := ⟨_, rfl⟩
      have tq : Int.tdiv (j : Int) n = r := by rw [hr9, Int.tdiv_eq_ediv_of_nonneg (by omega)]; rfl
      have tm : Int.tmod (j : Int) n = v := by rw [hv9, Int.tmod_eq_emod_of_nonneg (by omega)]; rfl
      have wr1 : IntKind.i64.wrap (r : Int) = r := IntWalk.i64_in _ ⟨by omega, by omega⟩
      have wv1 : IntKind.i64.wrap (v : Int) = v := IntWalk.i64_in _ ⟨by omega, by omega⟩
      rw [← hr9, ← hv9] at dv3
      rw [← hr9] at dv1
      rw [← hv9] at dv2
      clear hr9 hv9
      have HZ2 := Lib.hid hz
      have PT : Hid (∀ w', Below wr.heap.size wr w' → Calls Tryz.prog 127 #[.pointer (some gp), .int .i64 (r : Int), .int .i64 (v : Int), .int .i64 z] w' fun e w2 => (∃ b, e = .returned (.bool b)) ∧ ∃ G', PG w2 gp G' m n (setL Lj r v z) ∧ Kept G w w2 ∧ (∀ q, G' q → G q ∨ w.heap.size ≤ q)) := Lib.hid (fun w' hb2 => (put_any gp Gj m n Lj r v z w' (pg_up HPj.out hb2) (by omega) (by omega) (by omega) (by omega) zb.1 zb.2).mono (fun e w2 ⟨e1, G', h1, h2, h3⟩ => ⟨⟨_, e1⟩, G', h1, (HKj.out.then hb2).trans h2 (fun q hq h => (HGj.out q h).elim id (fun h4 => by omega)), fun q hq => (h3 q hq).elim (fun h4 => HGj.out q h4) (fun h4 => .inr (Nat.le_trans (HKj.out.then hb2).size h4))⟩))
      clear hz
      have WD : Hid (∀ w', Below wr.heap.size wr w' → Calls Tryz.prog 126 #[.pointer (some gp)] w' fun e w2 => e = .returned (.int .i64 n) ∧ w2 = w') := Lib.hid (fun w' hb2 => width_eq gp Gj m n Lj w' (pg_up HPj.out hb2))
      go_wp2
      go_region_held3 (fun w' => w'.cell? ⟨b, 0, none⟩ = some (.pointer (some gp))) (first | (with_reducible assumption) | (with_reducible refine cell_up c0 ?_ <;> (repeat' (first | (with_reducible exact Below.refl _ _) | (with_reducible assumption) | (with_reducible refine below_over ?_ _ _) | (with_reducible refine Lw.below_alloc ?_ _) | (with_reducible refine Below.drew ?_) | (with_reducible refine below_drewN ?_ _) | (with_reducible refine Below.setCell ?_ ?_ _) | go_size)))) (first
        | (go_at_call 126; (with_reducible refine (WD.out _ (by (repeat' (first | (with_reducible exact Below.refl _ _) | (with_reducible assumption) | (with_reducible refine below_over ?_ _ _) | (with_reducible refine Lw.below_alloc ?_ _) | (with_reducible refine Below.drew ?_) | (with_reducible refine below_drewN ?_ _) | (with_reducible refine Below.setCell ?_ ?_ _) | go_size)))).mono ?_); rintro e w' ⟨rfl, rfl⟩)
        | (go_at_call 127; (with_reducible refine (PT.out _ (by (repeat' (first | (with_reducible exact Below.refl _ _) | (with_reducible assumption) | (with_reducible refine below_over ?_ _ _) | (with_reducible refine Lw.below_alloc ?_ _) | (with_reducible refine Below.drew ?_) | (with_reducible refine below_drewN ?_ _) | (with_reducible refine Below.setCell ?_ ?_ _) | go_size)))).mono ?_); rintro e w6 ⟨⟨bb, rfl⟩, G6, hp6, hk6, hf6⟩; have HP6 := Lib.hid hp6; have HK6 := Lib.hid hk6; have HF6 := Lib.hid hf6; have x0 : w6.cell? ⟨b, 0, none⟩ = some (.pointer (some gp)) := hk6.cell c0w HGB.out; clear hp6 hk6 hf6))
      all_goals go_wp2
      all_goals go_roundw
      case rel => exact ⟨j + 1, by omega, by go_num, G6, _, HP6.out, by rw [flat_put HPj.out.1 z (by omega) (by omega) (by omega) (by omega), HFj.out, Int.toNat_natCast, Int.toNat_natCast, dv3, upto2_set HFL.out HL.out HZ2.out], HK6.out, HF6.out⟩
      case measure => simp [intOf]; omega
    · have e : j = N := by omega
      subst e
      go_wp2
      go_ret
      obtain ⟨F', h1, h2, h3⟩ := HT.out _ _ _ HPj.out HKj.out HGj.out
      exact ⟨rfl, F', Lj, h1, by rw [HFj.out, upto2_end HFL.out HL.out], h2, h3⟩
end Go.Proofs.YtiblpdjehknbcaaGreat.Sk
/- What the statements of layer 10 lean on. Printed by wip/gen/sklaws.py. -/
namespace Go.Proofs.YtiblpdjehknbcaaGreat.Sk
open Go Go.RowKit Lw Grd Lin Con Shp
set_option linter.unusedVariables false
set_option linter.unusedSimpArgs false
theorem ret_bs {a b : Bool} (h : a = b) : Ending.returned (.bool a) = Ending.returned (.bool b) := by rw [h]
theorem ret_is {k : IntKind} {a b : Int} (h : a = b) : Ending.returned (.int k a) = .returned (.int k b) := by rw [h]
set_option maxRecDepth 100000 in
theorem open_cfg_c : Tryz.prog.cellsOf 24 = 5 := by kernel_rfl
set_option maxRecDepth 100000 in
theorem open_cfg {H : Type} {enc : TypeId × Value → H} {w : World} {v : Value} {d : DataW H} {p : List MemPlace} {base : Nat} (hv : Value.okWide Tryz.prog w .any base 24 v)
    (h : DataW.Trod enc Tryz.prog w 0 (fun _ => true) true 24 v d p) :
    ∃ (x0 : Int) (x1 : Int) (x2 : Int) (x3 : Int) (x4 : Int), v = .agg #[.int .i64 x0, .int .i64 x1, .int .i64 x2, .int .i64 x3, .int .u64 x4] ∧ (-9223372036854775808 ≤ x0 ∧ x0 ≤ 9223372036854775807) ∧ (-9223372036854775808 ≤ x1 ∧ x1 ≤ 9223372036854775807) ∧ (-9223372036854775808 ≤ x2 ∧ x2 ≤ 9223372036854775807) ∧ (-9223372036854775808 ≤ x3 ∧ x3 ≤ 9223372036854775807) ∧ (0 ≤ x4 ∧ x4 ≤ 18446744073709551615) := by
  have hcs : ∃ cs : Array Value, v = .agg cs ∧ cs.size = Tryz.prog.cellsOf 24 := by
    simp only [Value.okWide, Tryz.underlying24] at hv
    obtain ⟨cs, h1, h2, _⟩ := hv
    exact ⟨cs, h1, h2⟩
  obtain ⟨⟨l⟩, rfl, hsz⟩ := hcs
  rw [open_cfg_c] at hsz
  obtain ⟨fuel, hf0⟩ := h
  obtain ⟨xs, k, _, _, _, hxl, hf⟩ := DataW.trod_struct Tryz.underlying24 hf0
  match xs, hxl, l, hsz with
  | [y0, y1, y2, y3, y4], _, [v0, v1, v2, v3, v4], _ =>
    have g0 := hf 0 _ rfl
    have g1 := hf 1 _ rfl
    have g2 := hf 2 _ rfl
    have g3 := hf 3 _ rfl
    have g4 := hf 4 _ rfl
    simp [Value.cells, show Tryz.prog.cellsOf 3 = 1 from by kernel_rfl, show Tryz.prog.cellsOf 22 = 1 from by kernel_rfl] at g0 g1 g2 g3 g4
    obtain ⟨x0, f0, _, w0⟩ := DataW.trod_int (show Tryz.prog.underlying 3 = some (.int .i64) by kernel_rfl) g0
    simp at f0
    subst f0
    obtain ⟨x1, f1, _, w1⟩ := DataW.trod_int (show Tryz.prog.underlying 3 = some (.int .i64) by kernel_rfl) g1
    simp at f1
    subst f1
    obtain ⟨x2, f2, _, w2⟩ := DataW.trod_int (show Tryz.prog.underlying 3 = some (.int .i64) by kernel_rfl) g2
    simp at f2
    subst f2
    obtain ⟨x3, f3, _, w3⟩ := DataW.trod_int (show Tryz.prog.underlying 3 = some (.int .i64) by kernel_rfl) g3
    simp at f3
    subst f3
    obtain ⟨x4, f4, _, w4⟩ := DataW.trod_int (show Tryz.prog.underlying 22 = some (.int .u64) by kernel_rfl) g4
    simp at f4
    subst f4
    exact ⟨x0, x1, x2, x3, x4, rfl, Lw.wf_i64 w0, Lw.wf_i64 w1, Lw.wf_i64 w2, Lw.wf_i64 w3, Lw.wf_u64 w4⟩
theorem open_upds_u : Tryz.prog.underlying 25 = some (.slice 38) := by kernel_rfl
theorem open_upds_c : Tryz.prog.cellsOf 38 = 2 := by kernel_rfl
set_option maxRecDepth 100000 in
theorem open_upds {H : Type} {enc : TypeId × Value → H} {w : World} {base fuel : Nat} {spare : Nat → Bool} {held : Bool} {cs : List Value} {x : DataW H × List MemPlace} (h : DataW.trod enc Tryz.prog w base spare held fuel 25 cs = some x) :
    ∃ (A : Option Addr) (len cap : Nat) (qs : List (Int × Int)), cs = [.slice A len cap] ∧ (A = none → len = 0 ∧ cap = 0) ∧ len ≤ cap ∧ cap ≤ maxLen ∧ qs.length = len ∧ ∀ (i : Nat) q, qs[i]? = some q → ∃ a, A = some a ∧ w.cell? (a.add (i * 2)) = some (.int .u64 (q.1)) ∧ w.cell? (a.add (i * 2 + 1)) = some (.int .i64 (q.2)) ∧ (0 ≤ (q.1) ∧ (q.1) ≤ 18446744073709551615) ∧ (-9223372036854775808 ≤ (q.2) ∧ (q.2) ≤ 9223372036854775807) := by
  rcases Go.Deep.open_slice open_upds_u h with ⟨rfl, _⟩ | ⟨a, len, cap, m, n, D, Pl, rfl, hb, hl, hm, hmm, _, hx⟩
  · exact ⟨none, 0, 0, [], rfl, fun _ => ⟨rfl, rfl⟩, Nat.le_refl _, by simp, rfl, fun i q hq => by simp at hq⟩
  have hlm : len ≤ m := by rw [hmm]; split <;> omega
  have each : ∀ i, i < len → ∃ q : Int × Int, w.cell? (a.add (i * 2)) = some (.int .u64 (q.1)) ∧ w.cell? (a.add (i * 2 + 1)) = some (.int .i64 (q.2)) ∧ (0 ≤ (q.1) ∧ (q.1) ≤ 18446744073709551615) ∧ (-9223372036854775808 ≤ (q.2) ∧ (q.2) ≤ 9223372036854775807) := by
    intro i hi
    obtain ⟨cs', h1, h2⟩ := hx i (by omega)
    rw [open_upds_c] at h1
    obtain ⟨_, hlen, hcell⟩ := World.cells?_some h1
    obtain ⟨xs, k, _, _, _, hxl, hf⟩ := DataW.trod_struct Tryz.underlying38 h2
    match xs, hxl, cs', hlen with
    | [y0, y1], _, [v0, v1], _ =>
      have g0 := hf 0 _ rfl
      have g1 := hf 1 _ rfl
      have e0 := hcell 0 (by omega)
      have e1 := hcell 1 (by omega)
      rw [add_add'] at e0 e1
      simp [show Tryz.prog.cellsOf 22 = 1 from by kernel_rfl, show Tryz.prog.cellsOf 2 = 1 from by kernel_rfl] at g0 g1
      obtain ⟨x0, f0, _, w0⟩ := DataW.trod_int (show Tryz.prog.underlying 22 = some (.int .u64) by kernel_rfl) g0
      obtain ⟨x1, f1, _, w1⟩ := DataW.trod_int (show Tryz.prog.underlying 2 = some (.int .i64) by kernel_rfl) g1
      simp at f0 f1
      subst f0 f1
      exact ⟨(x0, x1), by simpa using e0, by simpa using e1, Lw.wf_u64 w0, Lw.wf_i64 w1⟩
  have each2 : ∀ i, ∃ q : Int × Int, i < len → (w.cell? (a.add (i * 2)) = some (.int .u64 (q.1)) ∧ w.cell? (a.add (i * 2 + 1)) = some (.int .i64 (q.2)) ∧ (0 ≤ (q.1) ∧ (q.1) ≤ 18446744073709551615) ∧ (-9223372036854775808 ≤ (q.2) ∧ (q.2) ≤ 9223372036854775807)) := fun i => by
    by_cases hi : i < len
    · obtain ⟨q, hq⟩ := each i hi
      exact ⟨q, fun _ => hq⟩
    · exact ⟨(0, 0), fun h => absurd h hi⟩
  refine ⟨some a, len, cap, (List.range len).map fun i => Classical.choose (each2 i), rfl, (fun h => by cases h), hl, hm, by simp, ?_⟩
  intro i q hq
  rw [List.getElem?_map] at hq
  obtain ⟨j, hj, rfl⟩ := Option.map_eq_some_iff.1 hq
  have hj2 := List.getElem?_eq_some_iff.1 hj
  obtain ⟨hj3, hj4⟩ := hj2
  simp at hj3 hj4
  subst hj4
  exact ⟨a, rfl, Classical.choose_spec (each2 i) hj3⟩
/-- A row of updates, handed in. -/
structure UpdV (w : World) (A : Option Addr) (n c : Nat) (qs : Ups) : Prop where
  nil : A = none → n = 0 ∧ c = 0
  nc : n ≤ c
  cm : c ≤ maxLen
  len : qs.length = n
  each : ∀ (i : Nat) q, qs[i]? = some q → ∃ a, A = some a ∧ w.cell? (a.add (i * 2)) = some (.int .u64 (q.1)) ∧ w.cell? (a.add (i * 2 + 1)) = some (.int .i64 (q.2)) ∧ (0 ≤ (q.1) ∧ (q.1) ≤ 18446744073709551615) ∧ (-9223372036854775808 ≤ (q.2) ∧ (q.2) ≤ 9223372036854775807)
theorem UpdV.up {w w' : World} {A : Option Addr} {n c : Nat} {qs : Ups} (h : UpdV w A n c qs) (hb : Below w.heap.size w w') : UpdV w' A n c qs :=
  ⟨h.nil, h.nc, h.cm, h.len, fun i q hq => by
    obtain ⟨a, e, h1, h2, h3⟩ := h.each i q hq
    exact ⟨a, e, cell_up h1 hb, cell_up h2 hb, h3⟩⟩
theorem UpdV.at {w : World} {A : Option Addr} {n c : Nat} {qs : Ups} (h : UpdV w A n c qs) {i : Nat} {q : Int × Int} (hq : qs[i]? = some q) : ∃ (a : Addr) (g o : Nat), A = some a ∧ a.add (i * 2) = ⟨g, o, none⟩ ∧ w.cell? ⟨g, o, none⟩ = some (.int .u64 q.1) ∧ w.cell? ⟨g, o + 1, none⟩ = some (.int .i64 q.2) ∧ (0 ≤ q.1 ∧ q.1 ≤ 18446744073709551615) ∧ (-9223372036854775808 ≤ q.2 ∧ q.2 ≤ 9223372036854775807) := by
  obtain ⟨a, e, h1, h2, h3, h4⟩ := h.each i q hq
  rw [← add_add'] at h2
  have hs : (a.add (i * 2)).spot = none := by
    unfold World.cell? at h1
    split at h1
    · split at h1
      · cases h1
      · rename_i hs; simpa using hs
    · cases h1
  obtain ⟨ad, had⟩ : ∃ ad, a.add (i * 2) = ad := ⟨_, rfl⟩
  rw [had] at h1 h2 hs
  obtain ⟨g, o, sp⟩ := ad
  simp only at hs
  subst hs
  rw [Ord.add_at] at h2
  exact ⟨a, g, o, e, had, h1, h2, h3, h4⟩
theorem rem_key (k K : Int) (k0 : 0 ≤ k) (k1 : k ≤ 18446744073709551615) (hK : 1 ≤ K) : Int.tmod k K = k % K ∧ 0 ≤ k % K ∧ k % K ≤ 18446744073709551615 := by
  have h1 := Int.emod_nonneg k (show K ≠ 0 by omega)
  have h2 : k % K ≤ k := by
    have h3 := Int.mul_ediv_add_emod k K
    have h4 := Int.mul_nonneg (show (0 : Int) ≤ K by omega) (Int.ediv_nonneg k0 (show (0 : Int) ≤ K by omega))
    omega
  exact ⟨Int.tmod_eq_emod_of_nonneg k0, h1, by omega⟩
/-- The updates, cut: sixty of them. -/
def upsA (c : Cfg) (l : Int) (qs : Ups) : Ups := (qs.take 60).map (cutU c l)
theorem upsA_get {c : Cfg} {l : Int} {qs : Ups} {k : Nat} {q : Int × Int} (hk : k < 60) (hq : qs[k]? = some q) : (upsA c l qs)[k]? = some (cutU c l q) := by
  unfold upsA
  rw [List.getElem?_map, List.getElem?_take, if_pos hk, hq]
  rfl
theorem upsA_all {c : Cfg} {l : Int} {qs : Ups} {k : Nat} (h : k = qs.length ∨ k = 60) (hk : k ≤ 60) : (upsA c l qs).take k = upsA c l qs := by
  refine List.take_of_length_le ?_
  unfold upsA
  rw [List.length_map, List.length_take]
  omega
theorem upsA_bd {c : Cfg} {l : Int} (qs : Ups) (hK : 1 ≤ keys c l) (k : Nat) : ∀ u ∈ (upsA c l qs).take k, -1099511627776 ≤ u.2 ∧ u.2 ≤ 1099511627776 := by
  intro u hu
  have h1 := List.mem_of_mem_take hu
  unfold upsA at h1
  obtain ⟨v, _, rfl⟩ := List.mem_map.1 h1
  have := cutU_ok hK v
  exact ⟨this.2.2.1, this.2.2.2.1⟩
end Go.Proofs.YtiblpdjehknbcaaGreat.Sk
/- What sketches tell, in numbers: Point, the middle one, two that are merged. For stages from 10 on. -/
namespace Go.Proofs.YtiblpdjehknbcaaGreat.Sk
open Go Go.RowKit Lw Grd Lin Con Shp
set_option linter.unusedVariables false
theorem pt_ok {c : Cfg} {l k : Int} (hk : k < keys c l) : ptCode c l k = 0 := if_neg (by omega)
theorem pt_least {c : Cfg} {l k : Int} {L : List (List Int)} (hk : k < keys c l) (hm : c.md ≠ 3) : ptVal c l L k = lea L (cols c l k) := by
  unfold ptVal
  rw [if_neg (by omega), if_neg hm]
theorem pt_middle {c : Cfg} {l k : Int} {L : List (List Int)} (hk : k < keys c l) (hm : c.md = 3) : ptVal c l L k = Ord.kv (named L (cols c l k)) ((((named L (cols c l k)).length : Int) - 1) / 2) := by
  unfold ptVal
  rw [if_neg (by omega), if_pos hm]
theorem cells_lin {c : Cfg} {l : Int} {us : Ups} (hm : c.md ≠ 2) : cells c l us = chAll (zerosL (rws c) (wds c)) (opsU c l us) := if_neg hm
theorem cells_con {c : Cfg} {l : Int} {us : Ups} (hm : c.md = 2) : cells c l us = rsAll (zerosL (rws c) (wds c)) (opsU c l us) := if_pos hm
/-- What others have in a key's column, row by row. -/
def othR (c : Cfg) (l k : Int) (us : Ups) : List Int := (List.range (rws c)).map (fun r => othK c l k r us)
theorem othR_get {c : Cfg} {l k : Int} {us : Ups} {r : Nat} (hr : r < rws c) : (othR c l k us)[r]? = some (othK c l k r us) := by
  unfold othR
  rw [List.getElem?_map, List.getElem?_range hr]
  rfl
theorem othR_len (c : Cfg) (l k : Int) (us : Ups) : (othR c l k us).length = rws c := by simp [othR]
theorem named_oth {c : Cfg} {l k b : Int} {us : Ups} (h : UpsOk c l b us) (k0 : 0 ≤ k) (hk : k < keys c l) :
    named (chAll (zerosL (rws c) (wds c)) (opsU c l us)) (cols c l k) = (othR c l k us).map (fun v => v + hasK k us) := by
  have hsz := chAll_sz (sz_zeros (rws c) (wds c)) (opsU_ok h)
  have hlen := named_klen hsz.1 k0 hk
  apply List.ext_getElem?
  intro r
  rw [List.getElem?_map]
  by_cases hr : r < rws c
  · rw [named_key h k0 hk hr, othR_get hr]
    simp
    omega
  · rw [List.getElem?_eq_none (by rw [hlen]; omega), List.getElem?_eq_none (by rw [othR_len]; omega)]
    rfl
/-- If more than half of the rows are not farther than so much from 0, Point is not from what the key has. -/
theorem median_near {c : Cfg} {l k b far : Int} {us : Ups} (hr : IsRight c) (h : UpsOk c l b us) (k0 : 0 ≤ k) (hk : k < keys c l) (hm : c.md = 3) (hn : (rws c : Int) < 2 * (Ord.near (othR c l k us) (-far) far : Int)) :
    hasK k us - far ≤ ptVal c l (cells c l us) k ∧ ptVal c l (cells c l us) k ≤ hasK k us + far := by
  rw [pt_middle hk hm, cells_lin (by omega), named_oth h k0 hk]
  have hl : 0 < (othR c l k us).length := by rw [othR_len]; exact (rws_bd hr).1
  have h1 := (Ord.moves (othR c l k us) (hasK k us) hl).1
  rw [h1]
  have h2 := Ord.near_median2 (othR c l k us) (-far) far (by rw [othR_len]; exact hn)
  omega
/-- Merged, two sketches of the modes Linear and Median are one that was fed all. -/
theorem merge_lin {c : Cfg} {l : Int} {us vs : Ups} (hr : IsRight c) (hm : c.md ≠ 2) (hu : UpsOk c l 1099511627776 us) (hv : UpsOk c l 1099511627776 vs) (hlu : us.length ≤ 60) (hlv : vs.length ≤ 60) :
    mgCode 1 c c l l (cells c l us) (cells c l vs) = 0 ∧ mgRes 1 c c l l (cells c l us) (cells c l vs) = cells c l (us ++ vs) := by
  have h1 := opsU_ok hu
  have h2 := opsU_ok hv
  have w1 := within_mono (chAll_within (c := 1099511627776) (by omega) (b := 0) (Int.le_refl _) (within_zeros (rws c) (wds c)) h1) (c := 65970697666560) (by rw [opsU_len]; omega)
  have w2 := within_mono (chAll_within (c := 1099511627776) (by omega) (b := 0) (Int.le_refl _) (within_zeros (rws c) (wds c)) h2) (c := 65970697666560) (by rw [opsU_len]; omega)
  have hj := jcode_yes (s := 1) (m := rws c) (n := wds c) (join_fits (m := rws c) (n := wds c) w1 w2)
  have hs1 := chAll_sz (sz_zeros (rws c) (wds c)) h1
  have hs2 := chAll_sz (sz_zeros (rws c) (wds c)) h2
  have h3 : OpsOk (rws c) (wds c) 1099511627776 (opsU c l (us ++ vs)) := opsU_ok (fun u hq => (List.mem_append.1 hq).elim (hu u) (hv u))
  have hs3 := chAll_sz (sz_zeros (rws c) (wds c)) h3
  have hce : cfgE c c = true := decide_eq_true ⟨rfl, rfl, rfl, rfl, rfl⟩
  have e : gridS 1 (chAll (zerosL (rws c) (wds c)) (opsU c l us)) (chAll (zerosL (rws c) (wds c)) (opsU c l vs)) = chAll (zerosL (rws c) (wds c)) (opsU c l (us ++ vs)) := by
    have key : Sz (rws c) (wds c) (gridS 1 (chAll (zerosL (rws c) (wds c)) (opsU c l us)) (chAll (zerosL (rws c) (wds c)) (opsU c l vs))) := by
      refine ⟨by unfold gridS; rw [List.length_zipWith, hs1.1, hs2.1]; omega, fun r hr => ?_⟩
      obtain ⟨a, g1, b, g2, rfl⟩ := mem_zip hr
      unfold rowS
      rw [List.length_zipWith, hs1.2 a g1, hs2.2 b g2]
      omega
    refine sz_ext key hs3 fun r q hrm hqn => ?_
    rw [chAll_cel hrm hqn (sz_zeros _ _) h3, opsU_app, hit_app, cel_zeros]
    have c1 := chAll_cel hrm hqn (sz_zeros (rws c) (wds c)) h1
    have c2 := chAll_cel hrm hqn (sz_zeros (rws c) (wds c)) h2
    rw [cel_zeros] at c1 c2
    have g1 : r < (chAll (zerosL (rws c) (wds c)) (opsU c l us)).length := by rw [hs1.1]; exact hrm
    have g2 : r < (chAll (zerosL (rws c) (wds c)) (opsU c l vs)).length := by rw [hs2.1]; exact hrm
    have g3 := hs1.2 _ (List.getElem_mem g1)
    have g4 := hs2.2 _ (List.getElem_mem g2)
    have c3 : cel (gridS 1 (chAll (zerosL (rws c) (wds c)) (opsU c l us)) (chAll (zerosL (rws c) (wds c)) (opsU c l vs))) r q = cel (chAll (zerosL (rws c) (wds c)) (opsU c l us)) r q + cel (chAll (zerosL (rws c) (wds c)) (opsU c l vs)) r q := by
      unfold cel gridS
      rw [List.getElem?_zipWith, List.getElem?_eq_getElem g1, List.getElem?_eq_getElem g2]
      simp only [Option.getD_some]
      unfold rowS
      rw [List.getElem?_zipWith, List.getElem?_eq_getElem (by omega), List.getElem?_eq_getElem (by omega)]
      simp
    rw [c3, c1, c2]
    omega
  unfold mgCode mgRes
  have hs1x : ¬ ((1 : Int) = -1 ∧ c.md = 2) := by omega
  rw [if_pos (show cfgE c c = true ∧ l = l from ⟨hce, rfl⟩), if_pos (show cfgE c c = true ∧ l = l from ⟨hce, rfl⟩), if_neg hs1x, if_neg hs1x]
  simp only [cells_lin hm]
  rw [← e]
  exact hj
/-- In the mode Conservative, parted and merged: Point is between what the key has and what it would be told in the mode Linear. -/
theorem merge_con {c d : Cfg} {l k : Int} {us vs : Ups} (hr : IsRight c) (hm : c.md = 2) (hd : d.md = 1) (hrd : rws d = rws c) (hwd : wds d = wds c) (hcols : ∀ q, cols d l q = cols c l q) (hkd : keys d l = keys c l)
    (hu : UpsIn c l us) (hv : UpsIn c l vs) (hlu : us.length ≤ 60) (hlv : vs.length ≤ 60) (k0 : 0 ≤ k) (hk : k < keys c l) :
    mgCode 1 c c l l (cells c l us) (cells c l vs) = 0 ∧ hasK k (us ++ vs) ≤ ptVal c l (mgRes 1 c c l l (cells c l us) (cells c l vs)) k ∧ ptVal c l (mgRes 1 c c l l (cells c l us) (cells c l vs)) k ≤ ptVal d l (cells d l (us ++ vs)) k := by
  have h1 := opsU_ok hu.1
  have h2 := opsU_ok hv.1
  have r1 := rose_all (rose_zero (rws c) (wds c)) h1 (plus_of hu hm)
  have r2 := rose_all (rose_zero (rws c) (wds c)) h2 (plus_of hv hm)
  have d1 := rose_dims h1 (plus_of hu hm) (by rw [opsU_len]; exact hlu)
  have d2 := rose_dims h2 (plus_of hv hm) (by rw [opsU_len]; exact hlv)
  have hj := jcode_yes (s := 1) (m := rws c) (n := wds c) (join_fits (m := rws c) (n := wds c) d1.2 d2.2)
  have hce : cfgE c c = true := decide_eq_true ⟨rfl, rfl, rfl, rfl, rfl⟩
  have hrj := r1.join r2
  rw [List.nil_append, List.nil_append, ← opsU_app] at hrj
  have hlo := hrj.lea_own (cols_meet k0 hk)
  have hall : UpsOk c l 1099511627776 (us ++ vs) := fun u hq => (List.mem_append.1 hq).elim (hu.1 u) (hv.1 u)
  have hpl : ∀ u ∈ us ++ vs, 0 ≤ u.2 := fun u hq => (List.mem_append.1 hq).elim (hu.2 hm u) (hv.2 hm u)
  have hown := hasK_own (k := k) hall hpl
  have hops : opsU d l (us ++ vs) = opsU c l (us ++ vs) := by unfold opsU; simp only [hcols]
  have hmg : mgCode 1 c c l l (cells c l us) (cells c l vs) = 0 ∧ mgRes 1 c c l l (cells c l us) (cells c l vs) = gridS 1 (cells c l us) (cells c l vs) := by
    unfold mgCode mgRes
    have hs1x : ¬ ((1 : Int) = -1 ∧ c.md = 2) := by omega
    rw [if_pos (show cfgE c c = true ∧ l = l from ⟨hce, rfl⟩), if_pos (show cfgE c c = true ∧ l = l from ⟨hce, rfl⟩), if_neg hs1x, if_neg hs1x]
    simp only [cells_con hm]
    exact hj
  refine ⟨hmg.1, ?_, ?_⟩
  · rw [hmg.2, pt_least hk (by omega), cells_con hm, cells_con hm]
    omega
  · rw [hmg.2, pt_least hk (by omega), pt_least (by rw [hkd]; exact hk) (by omega), cells_con hm, cells_con hm, cells_lin (by omega), hrd, hwd, hops, hcols]
    have hlin : gridS 1 (chAll (zerosL (rws c) (wds c)) (opsU c l us)) (chAll (zerosL (rws c) (wds c)) (opsU c l vs)) = chAll (zerosL (rws c) (wds c)) (opsU c l (us ++ vs)) := by
      have hx : ({ c with md := 1 } : Cfg).md ≠ 2 := by simp
      have hrx : IsRight { c with md := 1 } := ⟨hr.1, hr.2.1, hr.2.2.1, hr.2.2.2.1, hr.2.2.2.2.1, hr.2.2.2.2.2.1, by simp, by simp⟩
      have hkx : keys { c with md := 1 } l = keys c l := by
        unfold keys
        by_cases hl : 0 ≤ l ∧ l ≤ c.bt
        · rw [if_pos ⟨hrx, hl⟩, if_pos ⟨hr, hl⟩]
        · rw [if_neg (fun g => hl g.2), if_neg (fun g => hl g.2)]
      have hox : ∀ ws : Ups, opsU { c with md := 1 } l ws = opsU c l ws := fun ws => by
        unfold opsU cols
        rw [hkx]
        rfl
      have hux : UpsOk { c with md := 1 } l 1099511627776 us := fun u hq => by have := hu.1 u hq; rw [hkx]; exact this
      have hvx : UpsOk { c with md := 1 } l 1099511627776 vs := fun u hq => by have := hv.1 u hq; rw [hkx]; exact this
      have hmx := merge_lin hrx hx hux hvx hlu hlv
      rw [cells_lin hx, cells_lin hx, cells_lin hx, hox, hox, hox] at hmx
      have hw1 := join_fits (m := rws c) (n := wds c) d1.1 d2.1
      have e2 : mgRes 1 { c with md := 1 } { c with md := 1 } l l (chAll (zerosL (rws c) (wds c)) (opsU c l us)) (chAll (zerosL (rws c) (wds c)) (opsU c l vs)) = gridS 1 (chAll (zerosL (rws c) (wds c)) (opsU c l us)) (chAll (zerosL (rws c) (wds c)) (opsU c l vs)) := by
        unfold mgRes
        have hcx : cfgE { c with md := 1 } { c with md := 1 } = true := decide_eq_true ⟨rfl, rfl, rfl, rfl, rfl⟩
        rw [if_pos (show cfgE { c with md := 1 } { c with md := 1 } = true ∧ l = l from ⟨hcx, rfl⟩), if_neg (show ¬ ((1 : Int) = -1 ∧ ({ c with md := 1 } : Cfg).md = 2) from fun h => by have := h.1; omega)]
        exact (jcode_yes hw1).2
      exact e2.symm.trans hmx.2
    rw [← hlin]
    exact hlo.2.1
end Go.Proofs.YtiblpdjehknbcaaGreat.Sk
/- others of layer 10's laws. Printed by wip/gen/skfed.py. -/
namespace Go.Proofs.YtiblpdjehknbcaaGreat.Sk
open Go Go.RowKit Lw Grd Lin Con Shp
set_option linter.unusedVariables false
set_option linter.unusedSimpArgs false
theorem scols_any (c : Cfg) (l k : Int) (m : Nat) (w : World) (h : c.Ok) (l0 : -9223372036854775808 ≤ l) (l1 : l ≤ 9223372036854775807) (k0 : 0 ≤ k) (k1 : k ≤ 18446744073709551615) (hk : k < keys c l) (hm : rws c = m) :
    Calls Tryz.prog 144 #[.agg #[.int .i64 c.bt, .int .i64 c.rw, .int .i64 c.wd, .int .i64 c.md, .int .u64 c.sd], .int .i64 l, .int .u64 k] w fun e w' => ∃ (A : Addr) (cap : Nat), e = .returned (.slice (some A) m cap) ∧ Rd .i64 w' (some A) (cols c l k) ∧ Below w.heap.size w w' := by
  subst hm
  have hl : (cols c l k).length = rws c := by rw [cols_len, if_pos hk]; rfl
  refine (columns_any c l k w h l0 l1 k0 k1).mono fun e w' ⟨A, cap, he, hr, _, _, hb⟩ => ?_
  obtain ⟨a, rfl⟩ := hr.some_of (by rw [hl]; exact (rws_bd (keys_right k0 hk).1).1)
  rw [hl] at he
  exact ⟨a, cap, he, hr, hb⟩
end Go.Proofs.YtiblpdjehknbcaaGreat.Sk
/- fed of layer 10's laws. Printed by wip/gen/skfed2.py. -/
namespace Go.Proofs.YtiblpdjehknbcaaGreat.Sk
open Go Go.RowKit Lw Grd Lin Con Shp
set_option linter.unusedVariables false
set_option linter.unusedSimpArgs false
/-- The updates from the one place to the other, cut. -/
def upsR (c : Cfg) (l : Int) (qs : Ups) (f t : Nat) : Ups := ((qs.take t).drop f).map (cutU c l)
theorem upsR_zero (c : Cfg) (l : Int) (qs : Ups) (f : Nat) : upsR c l qs f f = [] := by
  unfold upsR
  rw [List.drop_of_length_le (by rw [List.length_take]; omega)]
  rfl
theorem upsR_next {c : Cfg} {l : Int} {qs : Ups} {f k : Nat} {q : Int × Int} (hq : qs[k]? = some q) (hf : f ≤ k) : upsR c l qs f (k + 1) = upsR c l qs f k ++ [cutU c l q] := by
  obtain ⟨h1, h2⟩ := List.getElem?_eq_some_iff.1 hq
  unfold upsR
  rw [List.take_succ_eq_append_getElem h1, List.drop_append_of_le_length (by rw [List.length_take]; omega), List.map_append, h2]
  rfl
theorem upsR_len (c : Cfg) (l : Int) (qs : Ups) (f t : Nat) : (upsR c l qs f t).length ≤ t := by
  unfold upsR
  rw [List.length_map, List.length_drop, List.length_take]
  omega
theorem upsR_in {c : Cfg} {l : Int} (hk : 1 ≤ keys c l) (qs : Ups) (f t : Nat) : UpsIn c l (upsR c l qs f t) := upsIn_cut hk _
theorem upsR_end {c : Cfg} {l : Int} {qs : Ups} {f k t : Nat} (hk : k ≤ t) (h : k = t ∨ qs.length ≤ k) : upsR c l qs f k = upsR c l qs f t := by
  unfold upsR
  rcases h with rfl | h
  · rfl
  · rw [List.take_of_length_le h, List.take_of_length_le (by omega)]
theorem skI {w : World} {p : Addr} {F : Nat → Prop} {c : Cfg} {l : Int} {L : List (List Int)} (h : (skT p F c l L).I w) : SK w p F c l L := h
theorem two_boxs (w : World) (e1 e2 : TypeId) (v1 v2 : Array Value) : Have w ((w.alloc (.cells v1 e1)).alloc (.cells v2 e2)) [boxT (w.heap.size + 1) e2 v2, boxT w.heap.size e1 v1] := by
  refine (box_new w e1 v1).push (boxT (w.heap.size + 1) e2 v2) (Lw.below_alloc (Below.refl _ _) _) ?_ (fun k hk => ?_)
  · have h := heap_alloc_new (w.alloc (.cells v1 e1)) (.cells v2 e2)
    rw [World.size_alloc] at h
    exact h
  · rw [World.size_alloc]
    exact Nat.le_of_eq hk.symm
theorem box5 {w : World} {b : Nat} {e : TypeId} {v0 v1 v2 v3 v4 : Value} (h : (boxT b e #[v0, v1, v2, v3, v4]).I w) : w.cell? ⟨b, 0, none⟩ = some v0 ∧ w.cell? ⟨b, 1, none⟩ = some v1 ∧ w.cell? ⟨b, 2, none⟩ = some v2 ∧ w.cell? ⟨b, 3, none⟩ = some v3 ∧ w.cell? ⟨b, 4, none⟩ = some v4 :=
  ⟨box_cell h rfl, box_cell h rfl, box_cell h rfl, box_cell h rfl, box_cell h rfl⟩
theorem box7 {w : World} {b : Nat} {e : TypeId} {v0 v1 v2 v3 v4 v5 v6 : Value} (h : (boxT b e #[v0, v1, v2, v3, v4, v5, v6]).I w) : w.cell? ⟨b, 0, none⟩ = some v0 ∧ w.cell? ⟨b, 1, none⟩ = some v1 ∧ w.cell? ⟨b, 2, none⟩ = some v2 ∧ w.cell? ⟨b, 3, none⟩ = some v3 ∧ w.cell? ⟨b, 4, none⟩ = some v4 ∧ w.cell? ⟨b, 5, none⟩ = some v5 ∧ w.cell? ⟨b, 6, none⟩ = some v6 :=
  ⟨box_cell h rfl, box_cell h rfl, box_cell h rfl, box_cell h rfl, box_cell h rfl, box_cell h rfl, box_cell h rfl⟩
theorem boxs_frozen {w : World} {b : Nat} {e : TypeId} {vs : Array Value} (h : (boxT b e vs).I w) (i : Nat) : w.frozen? ⟨b, i, none⟩ = false := by
  have h1 : w.heap[b]? = some (.cells vs e (0, 0)) := h
  simp [World.frozen?, h1]
theorem boxs_set {w : World} {b : Nat} {e : TypeId} {vs : Array Value} (h : (boxT b e vs).I w) (i : Nat) (v : Value) : (boxT b e (vs.setIfInBounds i v)).I (w.setCell ⟨b, i, none⟩ v) := by
  have h1 : w.heap[b]? = some (.cells vs e (0, 0)) := h
  show (w.setCell ⟨b, i, none⟩ v).heap[b]? = _
  simp [World.setCell, Array.getElem?_modify, h1]
theorem store5 {w : World} {b : Nat} {e : TypeId} {u0 u1 u2 u3 u4 : Value} (h : (boxT b e #[u0, u1, u2, u3, u4]).I w) (v0 v1 v2 v3 v4 : Value) :
    (boxT b e #[v0, v1, v2, v3, v4]).I ((((((w.setCell ⟨b, 0, none⟩ v0).setCell ⟨b, 1, none⟩ v1).setCell ⟨b, 2, none⟩ v2).setCell ⟨b, 3, none⟩ v3).setCell ⟨b, 4, none⟩ v4).drew) := by
  have q := boxs_set (boxs_set (boxs_set (boxs_set (boxs_set h 0 v0) 1 v1) 2 v2) 3 v3) 4 v4
  exact (boxT b e #[v0, v1, v2, v3, v4]).keep _ _ (fun _ => False) q (Kept.of_below (Below.drew (Below.refl _ _))) (fun _ _ h => h)
theorem store_have {w0 w w' : World} {t0 t1 : Thing} {b : Nat} {e : TypeId} {vs : Array Value} {ts : List Thing} (h : Have w0 w (t0 :: t1 :: boxT b e vs :: ts)) (hk : Kept (fun k => k = b) w w') : Have w0 w' [t0] := by
  have hb : Below w0.heap.size w0 w' := hk.low h.below h.below.size (fun q hq => by subst hq; exact h.f2 q rfl)
  have h2 : Have w0 w [t0] := ⟨h.i0, h.f0, fun u hu => by simp at hu, h.below⟩
  exact Have.keep hk hb h2 (fun t ht k h3 h4 => by simp at ht; subst ht; exact h.ap02 k h3 h4)
/-- The config of a Play of layer 10, of a mode. -/
def cfgP (x : Cfg) (md : Int) : Cfg := { anyC x 8 9 with md := md }
theorem cfgP_right (x : Cfg) (md : Int) (h0 : 1 ≤ md) (h1 : md ≤ 3) : IsRight (cfgP x md) ∧ (cfgP x md).bt ≤ 8 := by
  have h := any_right x 8 9 (by omega) (by omega) (by omega) (by omega)
  refine ⟨⟨h.1, h.2.1, h.2.2.1, h.2.2.2.1, h.2.2.2.2.1, h.2.2.2.2.2.1, h0, h1⟩, ?_⟩
  show 1 + x.bt % 65536 % 8 ≤ 8
  omega
theorem cfgP_ok (x : Cfg) (hx : x.Ok) (md : Int) (h0 : 1 ≤ md) (h1 : md ≤ 3) : (cfgP x md).Ok := by
  have h := any_ok x hx 8 9 (by omega) (by omega) (by omega) (by omega)
  exact ⟨h.b0, h.b1, h.r0, h.r1, h.w0, h.w1, by show -9223372036854775808 ≤ md; omega, by show md ≤ 9223372036854775807; omega, h.s0, h.s1⟩
end Go.Proofs.YtiblpdjehknbcaaGreat.Sk
/- shown of layer 10's laws. Printed by wip/gen/skshown.py. -/
namespace Go.Proofs.YtiblpdjehknbcaaGreat.Sk
open Go Go.RowKit Lw Grd Lin Con Shp
set_option linter.unusedVariables false
set_option linter.unusedSimpArgs false
def sA : Cfg := ⟨3, 2, 1, 1, 0⟩
theorem sA_ok : sA.Ok := by constructor <;> decide
theorem sA_r : IsRight sA := by decide
theorem sA_rw : rws sA = 2 := rfl
theorem sA_wd : wds sA = 1 := rfl
theorem sA_k0 : keys sA 0 = 8 := by decide
theorem sA_k4 : keys sA 4 = 0 := by decide
theorem sA_cols {k : Int} (h1 : k < 8) : cols sA 0 k = [0, 0] := by
  have h : ∀ r, col sA 0 k r = 0 := fun r => by
    have h2 := col_range sA_r 0 k r
    have e : sA.wd = 1 := rfl
    omega
  rw [cols_yes (by rw [sA_k0]; exact h1)]
  show (List.range 2).map (col sA 0 k) = [0, 0]
  simp [List.range, List.range.loop, h]
def sB : List (List Int) := [[5], [5]]
def sD : List (List Int) := [[7], [7]]
theorem u1 : upCode sA 0 (zerosL 2 1) 0 5 = 0 ∧ upRes sA 0 (zerosL 2 1) 0 5 = sB := by
  unfold upCode upRes
  rw [sA_cols (by omega), sA_k0, if_neg (by omega), if_neg (by decide), if_neg (by omega), if_neg (by decide)]
  decide
theorem u2 : upCode sA 0 sB 1 2 = 0 ∧ upRes sA 0 sB 1 2 = sD := by
  unfold upCode upRes
  rw [sA_cols (by omega), sA_k0, if_neg (by omega), if_neg (by decide), if_neg (by omega), if_neg (by decide)]
  decide
theorem u3 : upCode sA 0 sD 8 2 = 2 ∧ upRes sA 0 sD 8 2 = sD := by
  unfold upCode upRes
  rw [sA_k0, if_pos (by omega), if_pos (by omega)]
  exact ⟨rfl, rfl⟩
theorem p1 : ptVal sA 0 sD 0 = 7 ∧ ptCode sA 0 0 = 0 := by
  unfold ptVal ptCode
  rw [sA_cols (by omega), sA_k0, if_neg (by omega), if_neg (by decide), if_neg (by omega)]
  refine ⟨?_, rfl⟩
  unfold lea
  rw [(Ord.kv_yes (k := 0) (by omega) (by decide)).1]
  exact (Ord.least_eq _ 7 (by decide) (by decide)).symm
theorem n_yes (w : World) : Calls Tryz.prog 55 #[.agg #[.int .i64 3, .int .i64 2, .int .i64 1, .int .i64 1, .int .u64 0], .int .i64 0] w fun e w' => ∃ (p : Addr) (F : Nat → Prop), e = .returned (.tuple #[.pointer (some p), .int .i64 0]) ∧ SK w' p F sA 0 (zerosL 2 1) ∧ (∀ k, F k → w.heap.size ≤ k) ∧ Below w.heap.size w w' := snew_yes sA 0 w sA_ok (by omega) (by omega) (by rw [sA_k0]; omega)
theorem n_no (w : World) : Calls Tryz.prog 55 #[.agg #[.int .i64 3, .int .i64 2, .int .i64 1, .int .i64 1, .int .u64 0], .int .i64 4] w fun e w' => e = .returned (.tuple #[.pointer none, .int .i64 1]) ∧ Below w.heap.size w w' := snew_no sA 4 w sA_ok (by omega) (by omega) sA_k4
theorem up_any (p : Addr) (F : Nat → Prop) (L M : List (List Int)) (k d x : Int) (w : World) (h : SK w p F sA 0 L) (k0 : 0 ≤ k) (k1 : k ≤ 18446744073709551615) (d0 : -9223372036854775808 ≤ d) (d1 : d ≤ 9223372036854775807) (hu : upCode sA 0 L k d = x ∧ upRes sA 0 L k d = M) :
    Calls Tryz.prog 140 #[.pointer (some p), .int .u64 k, .int .i64 d] w fun e w' => e = .returned (.int .i64 x) ∧ ∃ F', SK w' p F' sA 0 M ∧ Kept F w w' ∧ (∀ q, F' q → F q ∨ w.heap.size ≤ q) := by
  have C := supd_any p F sA 0 L k d w h k0 k1 d0 d1
  rw [hu.1, hu.2] at C
  exact C
theorem pt_any (p : Addr) (F : Nat → Prop) (w : World) (h : SK w p F sA 0 sD) : Calls Tryz.prog 139 #[.pointer (some p), .int .u64 0] w fun e w' => e = .returned (.tuple #[.int .i64 7, .int .i64 0]) ∧ Below w.heap.size w w' := by
  have C := spoint_any p F sA 0 sD 0 w h (by omega) (by omega)
  rw [p1.1, p1.2] at C
  exact C
end Go.Proofs.YtiblpdjehknbcaaGreat.Sk
/- What SketchPoint and SketchMedian lean on. Printed by wip/gen/skpoint.py. -/
namespace Go.Proofs.YtiblpdjehknbcaaGreat.Sk
open Go Go.RowKit Lw Grd Lin Con Shp
set_option linter.unusedVariables false
set_option linter.unusedSimpArgs false
theorem upsA_R (c : Cfg) (l : Int) (qs : Ups) : upsA c l qs = upsR c l qs 0 60 := by unfold upsA upsR; rw [List.drop_zero]
end Go.Proofs.YtiblpdjehknbcaaGreat.Sk
/- One update of a fresh sketch; what it is merged into changes; rows of numbers as things. Printed by wip/gen/skunl.py. -/
namespace Go.Proofs.YtiblpdjehknbcaaGreat.Sk
open Go Go.RowKit Lw Grd Lin Con Shp
set_option linter.unusedVariables false
set_option linter.unusedSimpArgs false
/-- A row of numbers in a block of its own. -/
def midT (g : Nat) (zs : List Int) : Thing where
  I := fun w => Ord.Mid w g 0 zs
  F := fun k => k = g
  keep := fun w w' H h hk hf => h.keep hk (hf g rfl)
  lt := fun w h k hk => by subst hk; exact h.lt
theorem midI {w : World} {g : Nat} {zs : List Int} (h : (midT g zs).I w) : Ord.Mid w g 0 zs := h
theorem one_in {c : Cfg} {l d : Int} (hk : 1 ≤ keys c l) (d0 : 0 ≤ d) (d1 : d ≤ 1099511627776) : UpsIn c l [(0, d)] := by
  refine ⟨fun u hu => ?_, fun _ u hu => ?_⟩
  · simp at hu
    subst hu
    exact ⟨by omega, by show (0 : Int) < keys c l; omega, by show -1099511627776 ≤ d; omega, d1⟩
  · simp at hu
    subst hu
    exact d0
theorem one_up {c : Cfg} {l d : Int} (hr : IsRight c) (hk : 1 ≤ keys c l) (d0 : 0 ≤ d) (d1 : d ≤ 1099511627776) : upCode c l (zerosL (rws c) (wds c)) 0 d = 0 ∧ upRes c l (zerosL (rws c) (wds c)) 0 d = cells c l [(0, d)] := by
  have hn : UpsIn c l [] := ⟨fun u hu => by simp at hu, fun _ u hu => by simp at hu⟩
  have h := up_ok hr hn (by simp) (one_in hk d0 d1)
  rw [cells_nil] at h
  exact h
theorem one_least {c : Cfg} {l d : Int} (hk : 1 ≤ keys c l) (d0 : 0 ≤ d) (d1 : d ≤ 1099511627776) {q : Nat} (hq : col c l 0 0 = q) : d ≤ cel (cells c l [(0, d)]) 0 q := by
  have hin := one_in hk d0 d1
  have hr := (keys_pos.1 hk).1
  have h0 := (rws_bd hr).1
  have hkk : (0 : Int) < keys c l := by omega
  have hok := opsU_ok hin.1
  have hm := cols_meet (c := c) (l := l) (k := 0) (Int.le_refl _) hkk
  by_cases h2 : c.md = 2
  · have hro := rose_all (rose_zero (rws c) (wds c)) hok (plus_of hin h2)
    rw [List.nil_append] at hro
    have hown : Lin.own (cols c l 0) (opsU c l [(0, d)]) = d := by simp [opsU, Lin.own]
    have hcr := col_range hr l 0 0
    have hwd := wds_bd hr
    have ho := hro.ow (cols c l 0) hm 0 q (by omega) (by omega) (by rw [cols_at hkk (by omega), hq])
    rw [cells_con h2]
    omega
  · rw [cells_lin h2]
    have hsz := chAll_sz (sz_zeros (rws c) (wds c)) hok
    have hn := named_cel hsz hm (r := 0) (v := q) (by omega) (by rw [cols_at hkk (by omega), hq])
    have hk2 := named_key hin.1 (Int.le_refl _) hkk (r := 0) (by omega)
    rw [hn] at hk2
    injection hk2 with hk2
    rw [hk2]
    simp [hasK, othK]
theorem cel_sum {m n : Nat} {L M : List (List Int)} (hL : Sz m n L) (hM : Sz m n M) {r q : Nat} (hr : r < m) (hq : q < n) : cel (gridS 1 L M) r q = cel L r q + cel M r q := by
  have g1 : r < L.length := by rw [hL.1]; exact hr
  have g2 : r < M.length := by rw [hM.1]; exact hr
  have g3 := hL.2 _ (List.getElem_mem g1)
  have g4 := hM.2 _ (List.getElem_mem g2)
  unfold cel gridS
  rw [List.getElem?_zipWith, List.getElem?_eq_getElem g1, List.getElem?_eq_getElem g2]
  simp only [Option.getD_some]
  unfold rowS
  rw [List.getElem?_zipWith, List.getElem?_eq_getElem (by omega), List.getElem?_eq_getElem (by omega)]
  simp
theorem sz_of_dims {m n : Nat} {L : List (List Int)} (h : Dims m n L) : Sz m n L := ⟨h.len, fun r hr => (h.rows r hr).1⟩
theorem cel_flat {m n : Nat} {L : List (List Int)} (h : Sz m n L) {r q : Nat} (hr : r < m) (hq : q < n) : cel L r q = (L.flatten[r * n + q]?).getD 0 := by
  rw [flat_get r q h.2 (by rw [h.1]; exact hr) hq]
  rfl
theorem cells_sz {c : Cfg} {l : Int} {us : Ups} (h : UpsIn c l us) : Sz (rws c) (wds c) (cells c l us) := by
  have hok := opsU_ok h.1
  by_cases h2 : c.md = 2
  · rw [cells_con h2]
    have hro := rose_all (rose_zero (rws c) (wds c)) hok (plus_of h h2)
    exact hro.sg
  · rw [cells_lin h2]
    exact chAll_sz (sz_zeros (rws c) (wds c)) hok
/-- What has something is merged in: some cell is another one. -/
theorem one_merge {c : Cfg} {l a b : Int} (hk : 1 ≤ keys c l) (a0 : 0 ≤ a) (a1 : a ≤ 1099511627776) (b0 : 1 ≤ b) (b1 : b ≤ 1099511627776) :
    mgCode 1 c c l l (cells c l [(0, a)]) (cells c l [(0, b)]) = 0 ∧ (mgRes 1 c c l l (cells c l [(0, a)]) (cells c l [(0, b)])).flatten ≠ (cells c l [(0, a)]).flatten := by
  have hia := one_in hk a0 a1
  have hib := one_in (d := b) hk (by omega) b1
  have hr := (keys_pos.1 hk).1
  have hs1 := cells_sz hia
  have hs2 := cells_sz hib
  have hf : fitsAll (gridS 1 (cells c l [(0, a)]) (cells c l [(0, b)])) = true := by
    have h1 := opsU_ok hia.1
    have h2 := opsU_ok hib.1
    by_cases hm : c.md = 2
    · rw [cells_con hm, cells_con hm]
      exact join_fits (m := rws c) (n := wds c) (rose_dims h1 (plus_of hia hm) (by rw [opsU_len]; simp)).2 (rose_dims h2 (plus_of hib hm) (by rw [opsU_len]; simp)).2
    · rw [cells_lin hm, cells_lin hm]
      exact join_fits (m := rws c) (n := wds c) (within_mono (chAll_within (c := 1099511627776) (by omega) (b := 0) (Int.le_refl _) (within_zeros (rws c) (wds c)) h1) (c := 65970697666560) (by rw [opsU_len]; simp)) (within_mono (chAll_within (c := 1099511627776) (by omega) (b := 0) (Int.le_refl _) (within_zeros (rws c) (wds c)) h2) (c := 65970697666560) (by rw [opsU_len]; simp))
  have hj := jcode_yes (s := 1) (m := rws c) (n := wds c) hf
  have hce : cfgE c c = true := decide_eq_true ⟨rfl, rfl, rfl, rfl, rfl⟩
  have hs1x : ¬ ((1 : Int) = -1 ∧ c.md = 2) := by omega
  unfold mgCode mgRes
  rw [if_pos (show cfgE c c = true ∧ l = l from ⟨hce, rfl⟩), if_pos (show cfgE c c = true ∧ l = l from ⟨hce, rfl⟩), if_neg hs1x, if_neg hs1x]
  refine ⟨hj.1, ?_⟩
  rw [hj.2]
  intro he
  have hw := rws_bd hr
  have hv := wds_bd hr
  have hcr := col_range hr l 0 0
  obtain ⟨q, hq⟩ : ∃ q : Nat, col c l 0 0 = q := ⟨(col c l 0 0).toNat, by omega⟩
  have hqn : q < wds c := by omega
  have hsg : Sz (rws c) (wds c) (gridS 1 (cells c l [(0, a)]) (cells c l [(0, b)])) := by
    refine ⟨by unfold gridS; rw [List.length_zipWith, hs1.1, hs2.1]; omega, fun r hr => ?_⟩
    obtain ⟨x, g1, y, g2, rfl⟩ := mem_zip hr
    unfold rowS
    rw [List.length_zipWith, hs1.2 x g1, hs2.2 y g2]
    omega
  have e1 := cel_sum hs1 hs2 (r := 0) (q := q) (by omega) hqn
  have e2 := cel_flat hsg (r := 0) (q := q) (by omega) hqn
  have e3 := cel_flat hs1 (r := 0) (q := q) (by omega) hqn
  rw [he] at e2
  have e4 := one_least (c := c) (l := l) (d := b) hk (by omega) b1 hq
  omega
end Go.Proofs.YtiblpdjehknbcaaGreat.Sk
/- A grid of one column, on which an update is tried, in numbers. Printed by wip/gen/skcopy.py. -/
namespace Go.Proofs.YtiblpdjehknbcaaGreat.Sk
open Go Go.RowKit Lw Grd Lin Con Shp
set_option linter.unusedVariables false
def trialL (L : List (List Int)) (cols : List Int) (m k : Nat) : List (List Int) := (List.range m).map (fun j => [if j < k then ((named L cols)[j]?).getD 0 else 0])
theorem trial_len (L : List (List Int)) (cols : List Int) (m k : Nat) : (trialL L cols m k).length = m := by unfold trialL; simp
theorem trial_get {L : List (List Int)} {cols : List Int} {m k j : Nat} (h : j < m) : (trialL L cols m k)[j]? = some [if j < k then ((named L cols)[j]?).getD 0 else 0] := by
  unfold trialL
  rw [List.getElem?_map, List.getElem?_range h]
  rfl
theorem trial_zero (L : List (List Int)) (cols : List Int) (m : Nat) : trialL L cols m 0 = zerosL m 1 := by
  apply List.ext_getElem?
  intro j
  by_cases h : j < m
  · rw [trial_get h, if_neg (by omega)]
    unfold zerosL
    rw [List.getElem?_replicate, if_pos h]
    rfl
  · rw [List.getElem?_eq_none (by rw [trial_len]; omega), List.getElem?_eq_none (by unfold zerosL; simp; omega)]
theorem trial_put {L : List (List Int)} {cols : List Int} {m k : Nat} {x : Int} (hk : k < m) (hx : (named L cols)[k]? = some x) : setL (trialL L cols m k) (k : Int) 0 x = trialL L cols m (k + 1) := by
  have hin : in2 (trialL L cols m k) (k : Int) 0 = true := by
    unfold in2
    rw [Int.toNat_natCast, trial_get hk, trial_len]
    simp
    omega
  unfold setL
  rw [if_pos hin, Int.toNat_natCast]
  apply List.ext_getElem?
  intro j
  rw [List.getElem?_modify]
  by_cases h : j < m
  · rw [trial_get h, trial_get h]
    simp only [Option.map_eq_map, Option.map_some]
    by_cases hj : k = j
    · subst hj
      simp [hx]
    · rw [if_neg hj]
      by_cases h1 : j < k
      · rw [if_pos h1, if_pos (show j < k + 1 by omega)]
      · rw [if_neg h1, if_neg (show ¬ j < k + 1 by omega)]
  · rw [List.getElem?_eq_none (by rw [trial_len]; omega), List.getElem?_eq_none (by rw [trial_len]; omega)]
    rfl
theorem trial_named {L : List (List Int)} {cols : List Int} {m : Nat} (hl : (named L cols).length = m) : named (trialL L cols m m) (List.replicate m 0) = named L cols := by
  apply List.ext_getElem?
  intro j
  by_cases h : j < m
  · have h2 : j < (named L cols).length := by omega
    unfold named
    rw [List.getElem?_zipWith, trial_get h, List.getElem?_replicate, if_pos h, if_pos h]
    have e : (named L cols)[j]? = some ((named L cols)[j]) := List.getElem?_eq_getElem h2
    have e2 : (List.zipWith (fun r c => r[c.toNat]?.getD 0) L cols)[j]? = some ((named L cols)[j]) := e
    rw [e2, e]
    rfl
  · rw [List.getElem?_eq_none (by unfold named; rw [List.length_zipWith, trial_len]; omega), List.getElem?_eq_none (by omega)]
theorem trial_meets {m : Nat} (h : 1 ≤ m) : Meets m 1 (List.replicate m 0) := ⟨h, by simp, fun v hv => by
  have := (List.mem_replicate.1 hv).2
  omega⟩
theorem named_size {m n : Nat} {L : List (List Int)} {cols : List Int} (hd : Dims m n L) (h : Meets m n cols) : (named L cols).length = m := by
  unfold named
  rw [List.length_zipWith, hd.len, h.2.1]
  omega
theorem trial_ch {m n : Nat} {L : List (List Int)} {cols : List Int} {d : Int} (hd : Dims m n L) (h : Meets m n cols) : chCode m 1 (trialL L cols m m) (List.replicate m 0) d = chCode m n L cols d := by
  unfold chCode
  rw [if_pos (trial_meets h.1), if_pos h]
  unfold chFits
  rw [trial_named (named_size hd h)]
theorem trial_rs {m n : Nat} {L : List (List Int)} {cols : List Int} {d : Int} (hd : Dims m n L) (h : Meets m n cols) : rsCode m 1 (trialL L cols m m) (List.replicate m 0) d = rsCode m n L cols d := by
  unfold rsCode
  rw [if_pos (trial_meets h.1), if_pos h]
  unfold lea
  rw [trial_named (named_size hd h)]
theorem in64_zero (m : Nat) : In64 (List.replicate m 0) := fun v hv => by
  have := (List.mem_replicate.1 hv).2
  omega
end Go.Proofs.YtiblpdjehknbcaaGreat.Sk
