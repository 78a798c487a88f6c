/- Texts that the statements of this seat lean on, put together: SkNum, SkCode, SkLawA, SkMath, SkOth. -/
import Derived.Test.YthecgkgnngpikaaGreatMa
import Derived.Test.YthecgkgnngpikaaGreatMd
import Derived.Test.YthecgkgnngpikaaGreatMe
import Derived.Test.YthecgkgnngpikaaGreatMf
import Derived.Laws.EntriesVeiled
import Derived.Deep.LoopGhost
import Derived.Deep.RegionHeld3
import Derived.Deep.DeepCutAuto
import Derived.Deep.QuietTactic
import Derived.BigQuiet
/- What a sketch's calls answer, in numbers. For stages from 10 on. -/
namespace Go.Proofs.YthecgkgnngpikaaGreat.Sk
open Go Go.RowKit Lw Grd Lin Con Shp
set_option linter.unusedVariables false
def upCode (c : Cfg) (l : Int) (L : List (List Int)) (k d : Int) : Int :=
  if keys c l ≤ k then 2 else if c.md = 2 then rsCode (rws c) (wds c) L (cols c l k) d else chCode (rws c) (wds c) L (cols c l k) d
def upRes (c : Cfg) (l : Int) (L : List (List Int)) (k d : Int) : List (List Int) :=
  if keys c l ≤ k then L else if c.md = 2 then rsRes (rws c) (wds c) L (cols c l k) d else chRes (rws c) (wds c) L (cols c l k) d
def ptVal (c : Cfg) (l : Int) (L : List (List Int)) (k : Int) : Int :=
  if keys c l ≤ k then 0 else if c.md = 3 then Ord.kv (named L (cols c l k)) ((((named L (cols c l k)).length : Int) - 1) / 2) else lea L (cols c l k)
def ptCode (c : Cfg) (l k : Int) : Int := if keys c l ≤ k then 2 else 0
def cfgE (c d : Cfg) : Bool := decide (c.bt = d.bt ∧ c.rw = d.rw ∧ c.wd = d.wd ∧ c.md = d.md ∧ c.sd = d.sd)
/-- s: 1 for Merge, -1 for Subtract. -/
def mgCode (s : Int) (c d : Cfg) (l l' : Int) (L M : List (List Int)) : Int :=
  if cfgE c d = true ∧ l = l' then (if s = -1 ∧ c.md = 2 then 3 else jcode s (rws c) (wds c) (rws c) (wds c) L M) else 5
def mgRes (s : Int) (c d : Cfg) (l l' : Int) (L M : List (List Int)) : List (List Int) :=
  if cfgE c d = true ∧ l = l' then (if s = -1 ∧ c.md = 2 then L else jres s (rws c) (wds c) (rws c) (wds c) L M) else L
/-- An update, cut. -/
def cutU (c : Cfg) (l : Int) (u : Int × Int) : Int × Int := (u.1 % keys c l, dv (decide (c.md = 2)) u.2)
theorem cutU_ok {c : Cfg} {l : Int} (hk : 1 ≤ keys c l) (u : Int × Int) : 0 ≤ (cutU c l u).1 ∧ (cutU c l u).1 < keys c l ∧ -1099511627776 ≤ (cutU c l u).2 ∧ (cutU c l u).2 ≤ 1099511627776 ∧ (c.md = 2 → 0 ≤ (cutU c l u).2) := by
  refine ⟨Int.emod_nonneg _ (by omega), Int.emod_lt_of_pos _ (by omega), (dv_bd _ _).1, (dv_bd _ _).2, fun h => ?_⟩
  unfold cutU
  simp only [h, decide_true]
  exact dv_plain _
/-- The cells behind updates, from noughts on. -/
def cells (c : Cfg) (l : Int) (us : Ups) : List (List Int) := if c.md = 2 then rsAll (zerosL (rws c) (wds c)) (opsU c l us) else chAll (zerosL (rws c) (wds c)) (opsU c l us)
def UpsIn (c : Cfg) (l : Int) (us : Ups) : Prop := UpsOk c l 1099511627776 us ∧ (c.md = 2 → ∀ u ∈ us, 0 ≤ u.2)
theorem upsIn_cut {c : Cfg} {l : Int} (hk : 1 ≤ keys c l) (us : Ups) : UpsIn c l (us.map (cutU c l)) := by
  refine ⟨fun u hu => ?_, fun hm u hu => ?_⟩
  · obtain ⟨v, _, rfl⟩ := List.mem_map.1 hu
    have := cutU_ok hk v
    exact ⟨this.1, this.2.1, this.2.2.1, this.2.2.2.1⟩
  · obtain ⟨v, _, rfl⟩ := List.mem_map.1 hu
    exact (cutU_ok hk v).2.2.2.2 hm
theorem cells_nil (c : Cfg) (l : Int) : cells c l [] = zerosL (rws c) (wds c) := by unfold cells opsU; split <;> rfl
theorem plus_of {c : Cfg} {l : Int} {us : Ups} (h : UpsIn c l us) (hm : c.md = 2) : Plus 1099511627776 (opsU c l us) := by
  intro o ho
  unfold opsU at ho
  obtain ⟨u, hu, rfl⟩ := List.mem_map.1 ho
  exact ⟨h.2 hm u hu, (h.1 u hu).2.2.2⟩
/-- In the midst of sixty updates: the next one is done. -/
theorem up_ok {c : Cfg} {l : Int} (hr : IsRight c) {us : Ups} (h : UpsIn c l us) (hl : us.length ≤ 60) {u : Int × Int} (hu : UpsIn c l [u]) :
    upCode c l (cells c l us) u.1 u.2 = 0 ∧ upRes c l (cells c l us) u.1 u.2 = cells c l (us ++ [u]) := by
  have h1 := hu.1 u (by simp)
  have hm := cols_meet h1.1 h1.2.1
  have hok := opsU_ok h.1
  have hlen := opsU_len c l us
  have hw := rws_bd hr
  have hv := wds_bd hr
  unfold upCode upRes cells
  have hk : ¬ keys c l ≤ u.1 := by omega
  simp only [if_neg hk, opsU_app]
  by_cases h2 : c.md = 2
  · simp only [if_pos h2]
    exact (both_ok hok (plus_of h h2) (by omega) (by omega) (by omega) (o := (cols c l u.1, u.2)) hm ⟨hu.2 h2 u (by simp), h1.2.2.2⟩).1
  · simp only [if_neg h2]
    have hwi := chAll_within (c := 1099511627776) (by omega) (b := 0) (Int.le_refl _) (within_zeros (rws c) (wds c)) hok
    have hf := fits_within (cols := cols c l u.1) (d := u.2) (within_mono hwi (c := 65970697666560) (by omega)) (by omega) h1.2.2 (by omega)
    have e : opsU c l [u] = [(cols c l u.1, u.2)] := rfl
    rw [e, chAll_one]
    exact ch_ok hm hf
end Go.Proofs.YthecgkgnngpikaaGreat.Sk
/- The walks of package sketch (the code's): a sketch is a block of its grid, its config and its level. Printed by wip/gen/skcode.py. -/
namespace Go.Proofs.YthecgkgnngpikaaGreat.Sk
open Go Go.RowKit Lw Grd Lin Con Shp
set_option linter.unusedVariables false
set_option linter.unusedSimpArgs false
/-- A sketch of the code at p, in the blocks F. -/
def SK (w : World) (p : Addr) (F : Nat → Prop) (c : Cfg) (l : Int) (L : List (List Int)) : Prop :=
  IsRight c ∧ c.Ok ∧ 0 ≤ l ∧ l ≤ c.bt ∧ ∃ (b : Nat) (gp : Addr) (G : Nat → Prop), p = ⟨b, 0, none⟩ ∧ w.heap[b]? = some (.cells #[.pointer (some gp), .int .i64 c.bt, .int .i64 c.rw, .int .i64 c.wd, .int .i64 c.md, .int .u64 c.sd, .int .i64 l] 56 (0, 0)) ∧ PG w gp G (rws c) (wds c) L ∧ ¬ G b ∧ F = (fun k => k = b ∨ G k)
theorem SK.dims {w : World} {p : Addr} {F : Nat → Prop} {c : Cfg} {l : Int} {L : List (List Int)} (h : SK w p F c l L) : Dims (rws c) (wds c) L := by
  obtain ⟨_, _, _, _, b, gp, G, _, _, h, _⟩ := h
  exact h.dims
theorem SK.right {w : World} {p : Addr} {F : Nat → Prop} {c : Cfg} {l : Int} {L : List (List Int)} (h : SK w p F c l L) : IsRight c ∧ 0 ≤ l ∧ l ≤ c.bt := ⟨h.1, h.2.2.1, h.2.2.2.1⟩
theorem SK.ok {w : World} {p : Addr} {F : Nat → Prop} {c : Cfg} {l : Int} {L : List (List Int)} (h : SK w p F c l L) : c.Ok := h.2.1
theorem SK.keep {w' : World} {H : Nat → Prop} {w : World} {p : Addr} {F : Nat → Prop} {c : Cfg} {l : Int} {L : List (List Int)} (h : SK w p F c l L) (hk : Kept H w w') (hf : ∀ k, F k → ¬ H k) : SK w' p F c l L := by
  obtain ⟨hr, hok, hl0, hl1, b, gp, G, rfl, hb, hg, hGb, rfl⟩ := h
  exact ⟨hr, hok, hl0, hl1, b, gp, G, rfl, hk.heap hb (hf b (.inl rfl)), (pgT gp G _ _ L).keep w w' H hg hk (fun k h => hf k (.inr h)), hGb, rfl⟩
theorem SK.up {w' : World} {w : World} {p : Addr} {F : Nat → Prop} {c : Cfg} {l : Int} {L : List (List Int)} (h : SK w p F c l L) (hk : Below w.heap.size w w') : SK w' p F c l L := h.keep (Kept.of_below (F := fun _ => False) hk) (fun _ _ h => h)
theorem SK.lt {w : World} {p : Addr} {F : Nat → Prop} {c : Cfg} {l : Int} {L : List (List Int)} (h : SK w p F c l L) (k : Nat) (hk : F k) : k < w.heap.size := by
  obtain ⟨hr, hok, hl0, hl1, b, gp, G, rfl, hb, hg, hGb, rfl⟩ := h
  rcases hk with rfl | hk
  · exact size_of_heap hb
  · exact (pgT gp G _ _ L).lt w hg k hk
def skT (p : Addr) (F : Nat → Prop) (c : Cfg) (l : Int) (L : List (List Int)) : Thing where
  I := fun w => SK w p F c l L
  F := F
  keep := fun w w' H h hk hf => h.keep hk hf
  lt := fun w h k hk => h.lt k hk
theorem cl_of {n : Int} {m : Nat} (h0 : 0 ≤ n) (h1 : n ≤ m) : cl n m = n.toNat := by unfold cl; omega
theorem sk_turn {w w' : World} {b : Nat} {gp : Addr} {G G' : Nat → Prop} {c : Cfg} {l : Int} {L : List (List Int)} (hr : IsRight c) (hok : c.Ok) (hl0 : 0 ≤ l) (hl1 : l ≤ c.bt)
    (hb : w.heap[b]? = some (.cells #[.pointer (some gp), .int .i64 c.bt, .int .i64 c.rw, .int .i64 c.wd, .int .i64 c.md, .int .u64 c.sd, .int .i64 l] 56 (0, 0))) (hGb : ¬ G b) (g' : PG w' gp G' (rws c) (wds c) L) (hk : Kept G w w') (hG : ∀ k, G' k → G k ∨ w.heap.size ≤ k) :
    ∃ F', SK w' ⟨b, 0, none⟩ F' c l L ∧ Kept (fun k => k = b ∨ G k) w w' ∧ (∀ q, F' q → (q = b ∨ G q) ∨ w.heap.size ≤ q) := by
  have hbl := size_of_heap hb
  refine ⟨_, ⟨hr, hok, hl0, hl1, b, gp, G', rfl, hk.heap hb hGb, g', fun h => ?_, rfl⟩, hk.mono (fun k _ h => .inr h), fun q hq => ?_⟩
  · rcases hG b h with h1 | h1
    · exact hGb h1
    · omega
  · rcases hq with rfl | h1
    · exact .inl (.inl rfl)
    · rcases hG q h1 with h2 | h2
      · exact .inl (.inr h2)
      · exact .inr h2
theorem slevel_any (p : Addr) (F : Nat → Prop) (c : Cfg) (l : Int) (L : List (List Int)) (w : World) (h : SK w p F c l L) :
    Calls Tryz.prog 22 #[.pointer (some p)] w fun e w' => e = .returned (.int .i64 l) ∧ Below w.heap.size w w' := by
  obtain ⟨hr, hok, hl0, hl1, b, gp, G, rfl, hb, hg, hGb, rfl⟩ := h
  have c6 := grd_cell hb 6 (v := .int .i64 l) rfl
  clear hb hg
  go_enter Tryz.func22, Tryz.ntmps22
  go_wp2
  go_ret
  exact ⟨rfl, Below.refl _ _⟩
set_option maxRecDepth 100000 in
theorem sconfig_any (p : Addr) (F : Nat → Prop) (c : Cfg) (l : Int) (L : List (List Int)) (w : World) (h : SK w p F c l L) :
    Calls Tryz.prog 21 #[.pointer (some p)] w fun e w' => e = .returned (.agg #[.int .i64 c.bt, .int .i64 c.rw, .int .i64 c.wd, .int .i64 c.md, .int .u64 c.sd]) ∧ Below w.heap.size w w' := by
  obtain ⟨hr, hok, hl0, hl1, b, gp, G, rfl, hb, hg, hGb, rfl⟩ := h
  have hbl := size_of_heap hb
  have c1 := grd_cell hb 1 (v := .int .i64 c.bt) rfl
  have c2 := grd_cell hb 2 (v := .int .i64 c.rw) rfl
  have c3 := grd_cell hb 3 (v := .int .i64 c.wd) rfl
  have c4 := grd_cell hb 4 (v := .int .i64 c.md) rfl
  have c5 := grd_cell hb 5 (v := .int .u64 c.sd) rfl
  clear hb hg
  go_enter Tryz.func21, Tryz.ntmps21
  go_wp2
  go_returns
  exact ⟨rfl, by (repeat' (first | (with_reducible exact Below.refl _ _) | (with_reducible assumption) | (with_reducible refine below_over ?_ _ _) | (with_reducible refine Lw.below_alloc ?_ _) | (with_reducible refine Below.drew ?_) | (with_reducible refine below_drewN ?_ _) | (with_reducible refine Below.setCell ?_ ?_ _) | go_size))⟩
theorem scells_mid (p : Addr) (F : Nat → Prop) (c : Cfg) (l : Int) (L : List (List Int)) (w : World) (h : SK w p F c l L) :
    Calls Tryz.prog 19 #[.pointer (some p)] w fun e w' => ∃ (g cap : Nat), e = .returned (.slice (some ⟨g, 0, none⟩) (rws c * wds c) cap) ∧ Ord.Mid w' g 0 L.flatten ∧ w.heap.size ≤ g ∧ rws c * wds c ≤ cap ∧ cap ≤ maxLen ∧ Below w.heap.size w w' := by
  obtain ⟨hr, hok, hl0, hl1, b, gp, G, rfl, hb, hg, hGb, rfl⟩ := h
  have c0 := grd_cell hb 0 (v := .pointer (some gp)) rfl
  have C := Lib.hid (cells_mid gp G _ _ L w hg)
  clear hb hg
  go_enter Tryz.func19, Tryz.ntmps19
  go_wp2_with (go_at_call 42; (with_reducible refine C.out.mono ?_); rintro e w' ⟨A, cap, rfl, h1, h2, h3, h4, h5⟩)
  go_ret
  exact ⟨A, cap, rfl, h1, h2, h3, h4, h5⟩
theorem scells_any (p : Addr) (F : Nat → Prop) (c : Cfg) (l : Int) (L : List (List Int)) (w : World) (h : SK w p F c l L) :
    Calls Tryz.prog 19 #[.pointer (some p)] w fun e w' => ∃ (A : Option Addr) (cap : Nat), e = .returned (.slice A (rws c * wds c) cap) ∧ Row1 w' A L.flatten ∧ rws c * wds c ≤ cap ∧ cap ≤ maxLen ∧ (∀ a, A = some a → w.heap.size ≤ a.block) ∧ Below w.heap.size w w' :=
  (scells_mid p F c l L w h).mono fun e w' ⟨g, cap, e1, hm, hg, h1, h2, hb⟩ => ⟨some ⟨g, 0, none⟩, cap, e1, mid_row hm, h1, h2, fun a ha => by injection ha with ha; subst ha; exact hg, hb⟩
set_option maxRecDepth 100000 in
theorem way_lin (p : Addr) (F : Nat → Prop) (c : Cfg) (l : Int) (L : List (List Int)) (w : World) (h : SK w p F c l L) (hm : c.md = 1) :
    Calls Tryz.prog 27 #[.pointer (some p)] w fun e w' => e = .returned (.agg #[.func (.func 49) #[] #[], .func (.func 47) #[] #[], .bool true]) ∧ Below w.heap.size w w' := by
  obtain ⟨hr, hok, hl0, hl1, b, gp, G, rfl, hb, hg, hGb, rfl⟩ := h
  have hbl := size_of_heap hb
  have c4 := grd_cell hb 4 (v := .int .i64 c.md) rfl
  rw [hm] at c4
  clear hb hg hm
  go_enter Tryz.func27, Tryz.ntmps27
  go_wp2
  go_returns
  exact ⟨rfl, by (repeat' (first | (with_reducible exact Below.refl _ _) | (with_reducible assumption) | (with_reducible refine below_over ?_ _ _) | (with_reducible refine Lw.below_alloc ?_ _) | (with_reducible refine Below.drew ?_) | (with_reducible refine below_drewN ?_ _) | (with_reducible refine Below.setCell ?_ ?_ _) | go_size))⟩
set_option maxRecDepth 100000 in
theorem way_con (p : Addr) (F : Nat → Prop) (c : Cfg) (l : Int) (L : List (List Int)) (w : World) (h : SK w p F c l L) (hm : c.md = 2) :
    Calls Tryz.prog 27 #[.pointer (some p)] w fun e w' => e = .returned (.agg #[.func (.func 46) #[] #[], .func (.func 47) #[] #[], .bool false]) ∧ Below w.heap.size w w' := by
  obtain ⟨hr, hok, hl0, hl1, b, gp, G, rfl, hb, hg, hGb, rfl⟩ := h
  have hbl := size_of_heap hb
  have c4 := grd_cell hb 4 (v := .int .i64 c.md) rfl
  rw [hm] at c4
  clear hb hg hm
  go_enter Tryz.func27, Tryz.ntmps27
  go_wp2
  go_returns
  exact ⟨rfl, by (repeat' (first | (with_reducible exact Below.refl _ _) | (with_reducible assumption) | (with_reducible refine below_over ?_ _ _) | (with_reducible refine Lw.below_alloc ?_ _) | (with_reducible refine Below.drew ?_) | (with_reducible refine below_drewN ?_ _) | (with_reducible refine Below.setCell ?_ ?_ _) | go_size))⟩
set_option maxRecDepth 100000 in
theorem way_med (p : Addr) (F : Nat → Prop) (c : Cfg) (l : Int) (L : List (List Int)) (w : World) (h : SK w p F c l L) (hm : c.md = 3) :
    Calls Tryz.prog 27 #[.pointer (some p)] w fun e w' => e = .returned (.agg #[.func (.func 49) #[] #[], .func (.func 48) #[] #[], .bool true]) ∧ Below w.heap.size w w' := by
  obtain ⟨hr, hok, hl0, hl1, b, gp, G, rfl, hb, hg, hGb, rfl⟩ := h
  have hbl := size_of_heap hb
  have c4 := grd_cell hb 4 (v := .int .i64 c.md) rfl
  rw [hm] at c4
  clear hb hg hm
  go_enter Tryz.func27, Tryz.ntmps27
  go_wp2
  go_returns
  exact ⟨rfl, by (repeat' (first | (with_reducible exact Below.refl _ _) | (with_reducible assumption) | (with_reducible refine below_over ?_ _ _) | (with_reducible refine Lw.below_alloc ?_ _) | (with_reducible refine Below.drew ?_) | (with_reducible refine below_drewN ?_ _) | (with_reducible refine Below.setCell ?_ ?_ _) | go_size))⟩
set_option maxRecDepth 100000 in
set_option maxHeartbeats 4000000 in
theorem scolumns_yes (p : Addr) (F : Nat → Prop) (c : Cfg) (l : Int) (L : List (List Int)) (k : Int) (w : World) (h : SK w p F c l L) (k0 : 0 ≤ k) (k1 : k ≤ 18446744073709551615) (hk : k < keys c l) :
    Calls Tryz.prog 26 #[.pointer (some p), .int .u64 k] w fun e w' => ∃ g, e = .returned (.tuple #[.slice (some ⟨g, 0, none⟩) (rws c) (rws c), .int .i64 0]) ∧ Ord.Mid w' g 0 (cols c l k) ∧ w.heap.size ≤ g ∧ Below w.heap.size w w' := by
  obtain ⟨hr, hok, hl0, hl1, b, gp, G, rfl, hb, hg, hGb, rfl⟩ := h
  have hbl := size_of_heap hb
  have c1 := grd_cell hb 1 (v := .int .i64 c.bt) rfl
  have c2 := grd_cell hb 2 (v := .int .i64 c.rw) rfl
  have c3 := grd_cell hb 3 (v := .int .i64 c.wd) rfl
  have c4 := grd_cell hb 4 (v := .int .i64 c.md) rfl
  have c5 := grd_cell hb 5 (v := .int .u64 c.sd) rfl
  have c6 := grd_cell hb 6 (v := .int .i64 l) rfl
  have hrw := rws_bd hr
  have C := Lib.hid (fun w => columns_new c l k (rws c) w hok (by omega) (by have := hr.2.1; omega) k0 k1 hk hrw.2.2.symm hrw.2.1)
  have HCO : Hid ((List.range (rws c)).map (col c l k) = cols c l k) := Lib.hid (if_pos hk).symm
  obtain ⟨n, hn⟩ : ∃ n, rws c = n := ⟨_, rfl⟩
  rw [hn] at C hrw HCO ⊢
  have hn0 : 1 ≤ n := hrw.1
  clear hrw hn hk
  clear hb hg
  go_enter Tryz.func26, Tryz.ntmps26
  go_wp2
  go_region_held3 (fun w' => w'.cell? ⟨b, 1, none⟩ = some (.int .i64 c.bt) ∧ w'.cell? ⟨b, 2, none⟩ = some (.int .i64 c.rw) ∧ w'.cell? ⟨b, 3, none⟩ = some (.int .i64 c.wd) ∧ w'.cell? ⟨b, 4, none⟩ = some (.int .i64 c.md) ∧ w'.cell? ⟨b, 5, none⟩ = some (.int .u64 c.sd) ∧ w'.cell? ⟨b, 6, none⟩ = some (.int .i64 l)) (first | (refine ⟨?_, ?_, ?_, ?_, ?_, ?_⟩ <;> (first | (with_reducible assumption) | (with_reducible refine cell_up c1 ?_) | (with_reducible refine cell_up c2 ?_) | (with_reducible refine cell_up c3 ?_) | (with_reducible refine cell_up c4 ?_) | (with_reducible refine cell_up c5 ?_) | (with_reducible refine cell_up c6 ?_)) <;> (repeat' (first | (with_reducible exact Below.refl _ _) | (with_reducible assumption) | (with_reducible refine below_over ?_ _ _) | (with_reducible refine Lw.below_alloc ?_ _) | (with_reducible refine Below.drew ?_) | (with_reducible refine below_drewN ?_ _) | (with_reducible refine Below.setCell ?_ ?_ _) | go_size)))) (first
    | (go_at_call 45; (with_reducible refine (C.out _).mono ?_); rintro e w' ⟨g, rfl, hm, hg, hb2⟩; obtain ⟨bs, d, rfl⟩ := below_grow hb2; have HM := Lib.hid hm; clear hm hb2))
  all_goals go_wp2
  all_goals go_ret2
  all_goals exact ⟨g, rfl, HCO.out ▸ HM.out, hg, by (repeat' (first | (with_reducible exact Below.refl _ _) | (with_reducible assumption) | (with_reducible refine below_over ?_ _ _) | (with_reducible refine Lw.below_alloc ?_ _) | (with_reducible refine Below.drew ?_) | (with_reducible refine below_drewN ?_ _) | (with_reducible refine Below.setCell ?_ ?_ _) | go_size))⟩
set_option maxRecDepth 100000 in
set_option maxHeartbeats 4000000 in
theorem scolumns_no (p : Addr) (F : Nat → Prop) (c : Cfg) (l : Int) (L : List (List Int)) (k : Int) (w : World) (h : SK w p F c l L) (k0 : 0 ≤ k) (k1 : k ≤ 18446744073709551615) (hk : keys c l ≤ k) :
    Calls Tryz.prog 26 #[.pointer (some p), .int .u64 k] w fun e w' => e = .returned (.tuple #[.slice none 0 0, .int .i64 2]) ∧ Below w.heap.size w w' := by
  obtain ⟨hr, hok, hl0, hl1, b, gp, G, rfl, hb, hg, hGb, rfl⟩ := h
  have hbl := size_of_heap hb
  have c1 := grd_cell hb 1 (v := .int .i64 c.bt) rfl
  have c2 := grd_cell hb 2 (v := .int .i64 c.rw) rfl
  have c3 := grd_cell hb 3 (v := .int .i64 c.wd) rfl
  have c4 := grd_cell hb 4 (v := .int .i64 c.md) rfl
  have c5 := grd_cell hb 5 (v := .int .u64 c.sd) rfl
  have c6 := grd_cell hb 6 (v := .int .i64 l) rfl
  have C := Lib.hid (fun w => columns_no c l k w hok (by omega) (by have := hr.2.1; omega) hk)
  clear hk
  clear hb hg
  go_enter Tryz.func26, Tryz.ntmps26
  go_wp2
  go_region_held3 (fun w' => w'.cell? ⟨b, 1, none⟩ = some (.int .i64 c.bt) ∧ w'.cell? ⟨b, 2, none⟩ = some (.int .i64 c.rw) ∧ w'.cell? ⟨b, 3, none⟩ = some (.int .i64 c.wd) ∧ w'.cell? ⟨b, 4, none⟩ = some (.int .i64 c.md) ∧ w'.cell? ⟨b, 5, none⟩ = some (.int .u64 c.sd) ∧ w'.cell? ⟨b, 6, none⟩ = some (.int .i64 l)) (first | (refine ⟨?_, ?_, ?_, ?_, ?_, ?_⟩ <;> (first | (with_reducible assumption) | (with_reducible refine cell_up c1 ?_) | (with_reducible refine cell_up c2 ?_) | (with_reducible refine cell_up c3 ?_) | (with_reducible refine cell_up c4 ?_) | (with_reducible refine cell_up c5 ?_) | (with_reducible refine cell_up c6 ?_)) <;> (repeat' (first | (with_reducible exact Below.refl _ _) | (with_reducible assumption) | (with_reducible refine below_over ?_ _ _) | (with_reducible refine Lw.below_alloc ?_ _) | (with_reducible refine Below.drew ?_) | (with_reducible refine below_drewN ?_ _) | (with_reducible refine Below.setCell ?_ ?_ _) | go_size)))) (first
    | (go_at_call 45; (with_reducible refine (C.out _).mono ?_); rintro e w' ⟨rfl, hb2⟩; obtain ⟨bs, d, rfl⟩ := below_grow hb2; clear hb2))
  all_goals go_wp2
  all_goals go_ret2
  all_goals exact ⟨rfl, by (repeat' (first | (with_reducible exact Below.refl _ _) | (with_reducible assumption) | (with_reducible refine below_over ?_ _ _) | (with_reducible refine Lw.below_alloc ?_ _) | (with_reducible refine Below.drew ?_) | (with_reducible refine below_drewN ?_ _) | (with_reducible refine Below.setCell ?_ ?_ _) | go_size))⟩
set_option maxRecDepth 100000 in
set_option maxHeartbeats 4000000 in
theorem snew_no (c : Cfg) (l : Int) (w : World) (h : c.Ok) (l0 : -9223372036854775808 ≤ l) (l1 : l ≤ 9223372036854775807) (hk : keys c l = 0) :
    Calls Tryz.prog 6 #[.agg #[.int .i64 c.bt, .int .i64 c.rw, .int .i64 c.wd, .int .i64 c.md, .int .u64 c.sd], .int .i64 l] w fun e w' => e = .returned (.tuple #[.pointer none, .int .i64 1]) ∧ Below w.heap.size w w' := by
  have C := Lib.hid (fun w => keys_any c l w h l0 l1)
  rw [hk] at C
  clear hk
  go_enter Tryz.func6, Tryz.ntmps6
  go_wp2_with (go_at_call 23; (with_reducible refine (C.out _).mono ?_); rintro e w' ⟨rfl, hb⟩; obtain ⟨bs, d, rfl⟩ := below_grow hb; clear hb)
  go_ret2
  exact ⟨rfl, by (repeat' (first | (with_reducible exact Below.refl _ _) | (with_reducible assumption) | (with_reducible refine below_over ?_ _ _) | (with_reducible refine Lw.below_alloc ?_ _) | (with_reducible refine Below.drew ?_) | (with_reducible refine below_drewN ?_ _) | (with_reducible refine Below.setCell ?_ ?_ _) | go_size))⟩
set_option maxRecDepth 100000 in
set_option maxHeartbeats 4000000 in
theorem snew_yes (c : Cfg) (l : Int) (w : World) (h : c.Ok) (l0 : -9223372036854775808 ≤ l) (l1 : l ≤ 9223372036854775807) (hk : 1 ≤ keys c l) :
    Calls Tryz.prog 6 #[.agg #[.int .i64 c.bt, .int .i64 c.rw, .int .i64 c.wd, .int .i64 c.md, .int .u64 c.sd], .int .i64 l] w fun e w' => ∃ (p : Addr) (F : Nat → Prop), e = .returned (.tuple #[.pointer (some p), .int .i64 0]) ∧ SK w' p F c l (zerosL (rws c) (wds c)) ∧ (∀ k, F k → w.heap.size ≤ k) ∧ Below w.heap.size w w' := by
  have hr := keys_pos.1 hk
  have hw1 := rws_bd hr.1
  have hw2 := wds_bd hr.1
  have C := Lib.hid (fun w => keys_any c l w h l0 l1)
  have N := Lib.hid (fun w => new_any c.rw c.wd w h.r0 h.r1 h.w0 h.w1)
  have e1 : cl c.rw 8 = rws c := cl_of (by omega) (by omega)
  have e2 : cl c.wd 128 = wds c := cl_of (by omega) (by omega)
  rw [e1, e2] at N
  obtain ⟨K, hK⟩ : ∃ K, keys c l = K := ⟨_, rfl⟩
  rw [hK] at C hk
  have HR := Lib.hid hr
  clear hr hw1 hw2 e1 e2 hK
  go_enter Tryz.func6, Tryz.ntmps6
  go_wp2_with (go_at_call 23; (with_reducible refine (C.out _).mono ?_); rintro e w' ⟨rfl, hb⟩; obtain ⟨bs, d, rfl⟩ := below_grow hb; clear hb)
  obtain ⟨w1, hw1⟩ : ∃ w1, w1 = grow (w.alloc (.cells #[.int .i64 c.bt, .int .i64 c.rw, .int .i64 c.wd, .int .i64 c.md, .int .u64 c.sd] 24)) bs d := ⟨_, rfl⟩
  have HB1 : Hid (Below w.heap.size w w1) := Lib.hid (by rw [hw1]; (repeat' (first | (with_reducible exact Below.refl _ _) | (with_reducible assumption) | (with_reducible refine below_over ?_ _ _) | (with_reducible refine Lw.below_alloc ?_ _) | (with_reducible refine Below.drew ?_) | (with_reducible refine below_drewN ?_ _) | (with_reducible refine Below.setCell ?_ ?_ _) | go_size)))
  have x0 : w1.cell? ⟨w.heap.size, 0, none⟩ = some (.int .i64 c.bt) := by rw [hw1]; simp [go_sem]
  have x1 : w1.cell? ⟨w.heap.size, 1, none⟩ = some (.int .i64 c.rw) := by rw [hw1]; simp [go_sem]
  have x2 : w1.cell? ⟨w.heap.size, 2, none⟩ = some (.int .i64 c.wd) := by rw [hw1]; simp [go_sem]
  have x3 : w1.cell? ⟨w.heap.size, 3, none⟩ = some (.int .i64 c.md) := by rw [hw1]; simp [go_sem]
  have x4 : w1.cell? ⟨w.heap.size, 4, none⟩ = some (.int .u64 c.sd) := by rw [hw1]; simp [go_sem]
  rw [← hw1]
  clear hw1
  go_region_held3 (fun w' => w'.cell? ⟨w.heap.size, 0, none⟩ = some (.int .i64 c.bt) ∧ w'.cell? ⟨w.heap.size, 1, none⟩ = some (.int .i64 c.rw) ∧ w'.cell? ⟨w.heap.size, 2, none⟩ = some (.int .i64 c.wd) ∧ w'.cell? ⟨w.heap.size, 3, none⟩ = some (.int .i64 c.md) ∧ w'.cell? ⟨w.heap.size, 4, none⟩ = some (.int .u64 c.sd)) (first | (refine ⟨?_, ?_, ?_, ?_, ?_⟩ <;> (first | (with_reducible assumption) | (with_reducible refine cell_up x0 ?_) | (with_reducible refine cell_up x1 ?_) | (with_reducible refine cell_up x2 ?_) | (with_reducible refine cell_up x3 ?_) | (with_reducible refine cell_up x4 ?_)) <;> (repeat' (first | (with_reducible exact Below.refl _ _) | (with_reducible assumption) | (with_reducible refine below_over ?_ _ _) | (with_reducible refine Lw.below_alloc ?_ _) | (with_reducible refine Below.drew ?_) | (with_reducible refine below_drewN ?_ _) | (with_reducible refine Below.setCell ?_ ?_ _) | go_size)))) (first
    | (go_at_call 24; (with_reducible refine (N.out _).mono ?_); rintro e w2 ⟨gp, G, rfl, hg, hG, hb2⟩; obtain ⟨bs2, d2, rfl⟩ := below_grow hb2; have HG := Lib.hid hg; have HF := Lib.hid hG; have HB2 := Lib.hid hb2; clear hg hG hb2))
  all_goals go_wp2
  all_goals go_ret2
  have hgl := fun k (hk : G k) => (pgT gp G _ _ _).lt _ HG.out k hk
  rw [size_grow] at hgl
  have hn := heap_alloc_new (grow w1 bs2 d2) (.cells #[.pointer (some gp), .int .i64 c.bt, .int .i64 c.rw, .int .i64 c.wd, .int .i64 c.md, .int .u64 c.sd, .int .i64 l] 56)
  rw [size_grow] at hn
  have hs := HB1.out.size
  have hz : w1.drew.heap.size = w1.heap.size := rfl
  rw [hz] at hgl
  refine ⟨⟨w1.heap.size + bs2.size, 0, none⟩, fun k => k = w1.heap.size + bs2.size ∨ G k, rfl, ⟨HR.out.1, h, HR.out.2.1, HR.out.2.2, _, gp, G, rfl, hn, pg_alloc HG.out _, fun hk => by have := hgl _ hk; omega, rfl⟩, fun k hk => ?_, ?_⟩
  · rcases hk with rfl | hk
    · omega
    · have := HF.out k hk; rw [hz] at this; omega
  · exact (below_call (Below.drew HB1.out) HB2.out (Nat.le_refl _)).alloc (by rw [size_grow]; omega) _
set_option maxRecDepth 100000 in
set_option maxHeartbeats 4000000 in
theorem spoint_no (p : Addr) (F : Nat → Prop) (c : Cfg) (l : Int) (L : List (List Int)) (k : Int) (w : World) (h : SK w p F c l L) (k0 : 0 ≤ k) (k1 : k ≤ 18446744073709551615) (hk : keys c l ≤ k) :
    Calls Tryz.prog 8 #[.pointer (some p), .int .u64 k] w fun e w' => e = .returned (.tuple #[.int .i64 0, .int .i64 2]) ∧ Below w.heap.size w w' := by
  have CN := Lib.hid (scolumns_no p F c l L k w h k0 k1 hk)
  clear h
  go_enter Tryz.func8, Tryz.ntmps8
  go_wp2_with (go_at_call 26; (with_reducible refine CN.out.mono ?_); rintro e w1 ⟨rfl, hb1⟩; have HB1 := Lib.hid hb1; clear hb1)
  go_ret2
  exact ⟨rfl, HB1.out⟩
set_option maxRecDepth 100000 in
set_option maxHeartbeats 4000000 in
theorem supd_no (p : Addr) (F : Nat → Prop) (c : Cfg) (l : Int) (L : List (List Int)) (k : Int) (w : World) (h : SK w p F c l L) (k0 : 0 ≤ k) (k1 : k ≤ 18446744073709551615) (d : Int) (d0 : -9223372036854775808 ≤ d) (d1 : d ≤ 9223372036854775807) (hk : keys c l ≤ k) :
    Calls Tryz.prog 17 #[.pointer (some p), .int .u64 k, .int .i64 d] w fun e w' => e = .returned (.int .i64 2) ∧ Below w.heap.size w w' := by
  have CN := Lib.hid (scolumns_no p F c l L k w h k0 k1 hk)
  clear h
  go_enter Tryz.func17, Tryz.ntmps17
  go_wp2_with (go_at_call 26; (with_reducible refine CN.out.mono ?_); rintro e w1 ⟨rfl, hb1⟩; have HB1 := Lib.hid hb1; clear hb1)
  go_ret
  exact ⟨rfl, HB1.out⟩
theorem middle_yes (p : Addr) (F : Nat → Prop) (m n : Nat) (L : List (List Int)) (A : Option Addr) (N cap : Nat) (cols : List Int) (w : World) (h : PG w p F m n L) (hc : Rd .i64 w A cols) (hl : cols.length = N) (hN : N ≤ 1000) (hz : In64 cols) (hm : Meets m n cols) :
    Calls Tryz.prog 48 #[.pointer (some p), .slice A N cap] w fun e w' => e = .returned (.tuple #[.int .i64 (Ord.kv (named L cols) ((((named L cols).length : Int) - 1) / 2)), .int .i64 0]) ∧ Below w.heap.size w w' := by
  have C := middle_any p F m n L A N cap cols w h hc hl hN hz
  rw [(readOf_yes (L := L) hm).1, (readOf_yes (L := L) hm).2] at C
  exact C
theorem in64_cols (c : Cfg) (l k : Int) : In64 (cols c l k) := fun v hv => cols_in c l k v hv
set_option maxRecDepth 100000 in
set_option maxHeartbeats 4000000 in
theorem spoint_lin (p : Addr) (F : Nat → Prop) (c : Cfg) (l : Int) (L : List (List Int)) (k : Int) (w : World) (h : SK w p F c l L) (k0 : 0 ≤ k) (k1 : k ≤ 18446744073709551615) (hk : k < keys c l) (hm : c.md = 1) :
    Calls Tryz.prog 8 #[.pointer (some p), .int .u64 k] w fun e w' => e = .returned (.tuple #[.int .i64 (lea L (cols c l k)), .int .i64 0]) ∧ Below w.heap.size w w' := by
  have HS := Lib.hid h
  obtain ⟨hr, hok, hl0, hl1, b, gp, G, rfl, hb, hg, hGb, rfl⟩ := h
  have hbl := size_of_heap hb
  have c0w := grd_cell hb 0 (v := .pointer (some gp)) rfl
  have CY := Lib.hid (scolumns_yes _ _ c l L k w HS.out k0 k1 hk)
  have WY : Hid (∀ w', Below w.heap.size w w' → Calls Tryz.prog 27 #[.pointer (some ⟨b, 0, none⟩)] w' fun e w2 => e = .returned (.agg #[.func (.func 49) #[] #[], .func (.func 47) #[] #[], .bool true]) ∧ Below w'.heap.size w' w2) := Lib.hid (fun w' hb2 => way_lin _ _ c l L w' (HS.out.up hb2) hm)
  have hcl : (cols c l k).length = rws c := (cols_meet k0 hk).2.1
  have hrw := rws_bd hr
  have TL : Hid (∀ w' g, Below w.heap.size w w' → Ord.Mid w' g 0 (cols c l k) → Calls Tryz.prog 47 #[.pointer (some gp), .slice (some ⟨g, 0, none⟩) (rws c) (rws c)] w' fun e w2 => e = .returned (.tuple #[.int .i64 (lea L (cols c l k)), .int .i64 0]) ∧ Below w'.heap.size w' w2) := Lib.hid (fun w' g hb2 hmid => least_yes gp G _ _ L _ _ _ _ w' (pg_up hg hb2) hmid.rd hcl (by omega) (in64_cols c l k) (cols_meet k0 hk))
  obtain ⟨n, hn⟩ : ∃ n, rws c = n := ⟨_, rfl⟩
  obtain ⟨V, hV⟩ : ∃ V, lea L (cols c l k) = V := ⟨_, rfl⟩
  rw [hV] at TL ⊢
  rw [hn] at CY TL
  have hfd : ∀ w : World, (Instr.field 64 (.agg #[.func (.func 49) #[] #[], .func (.func 47) #[] #[], .bool true]) 1).run Tryz.prog w = .ok (.func (.func 47) #[] #[]) w := fun _ => by kernel_rfl
  clear hb hg hcl hrw hn hV hm hk
  go_enter Tryz.func8, Tryz.ntmps8
  go_wp2_with (go_at_call 26; (with_reducible refine CY.out.mono ?_); rintro e w1 ⟨g, rfl, hm1, hg1, hb1⟩; have HM1 := Lib.hid hm1; have HB1 := Lib.hid hb1; clear hm1 hb1)
  have c0 := cell_up c0w HB1.out
  have WY1 : Hid (∀ w', Below w1.heap.size w1 w' → _) := Lib.hid (fun w' hb2 => WY.out w' (below_call HB1.out hb2 (Nat.le_refl _)))
  have TL1 : Hid (∀ w', Below w1.heap.size w1 w' → _) := Lib.hid (fun w' hb2 => TL.out w' g (below_call HB1.out hb2 (Nat.le_refl _)) (HM1.out.up hb2))
  go_region_held3 (fun w' => w'.cell? ⟨b, 0, none⟩ = some (.pointer (some gp))) (first | (with_reducible assumption) | (with_reducible refine cell_up c0 ?_ <;> (repeat' (first | (with_reducible exact Below.refl _ _) | (with_reducible assumption) | (with_reducible refine below_over ?_ _ _) | (with_reducible refine Lw.below_alloc ?_ _) | (with_reducible refine Below.drew ?_) | (with_reducible refine below_drewN ?_ _) | (with_reducible refine Below.setCell ?_ ?_ _) | go_size)))) (first
    | (go_at_call 27; (with_reducible refine (WY1.out _ (by (repeat' (first | (with_reducible exact Below.refl _ _) | (with_reducible assumption) | (with_reducible refine below_over ?_ _ _) | (with_reducible refine Lw.below_alloc ?_ _) | (with_reducible refine Below.drew ?_) | (with_reducible refine below_drewN ?_ _) | (with_reducible refine Below.setCell ?_ ?_ _) | go_size)))).mono ?_); rintro e w' ⟨rfl, hb2⟩; obtain ⟨bs, d2, rfl⟩ := below_grow hb2; clear hb2)
    | (go_at_call 47; (with_reducible refine (TL1.out _ (by (repeat' (first | (with_reducible exact Below.refl _ _) | (with_reducible assumption) | (with_reducible refine below_over ?_ _ _) | (with_reducible refine Lw.below_alloc ?_ _) | (with_reducible refine Below.drew ?_) | (with_reducible refine below_drewN ?_ _) | (with_reducible refine Below.setCell ?_ ?_ _) | go_size)))).mono ?_); rintro e w' ⟨rfl, hb2⟩; obtain ⟨bs3, d3, rfl⟩ := below_grow hb2; clear hb2))
  all_goals go_wp2
  all_goals go_ret2
  all_goals exact ⟨rfl, below_call HB1.out (by (repeat' (first | (with_reducible exact Below.refl _ _) | (with_reducible assumption) | (with_reducible refine below_over ?_ _ _) | (with_reducible refine Lw.below_alloc ?_ _) | (with_reducible refine Below.drew ?_) | (with_reducible refine below_drewN ?_ _) | (with_reducible refine Below.setCell ?_ ?_ _) | go_size))) (Nat.le_refl _)⟩
set_option maxRecDepth 100000 in
set_option maxHeartbeats 4000000 in
theorem supd_lin (p : Addr) (F : Nat → Prop) (c : Cfg) (l : Int) (L : List (List Int)) (k : Int) (w : World) (h : SK w p F c l L) (k0 : 0 ≤ k) (k1 : k ≤ 18446744073709551615) (d : Int) (d0 : -9223372036854775808 ≤ d) (d1 : d ≤ 9223372036854775807) (hk : k < keys c l) (hm : c.md = 1) :
    Calls Tryz.prog 17 #[.pointer (some p), .int .u64 k, .int .i64 d] w fun e w' => e = .returned (.int .i64 (chCode (rws c) (wds c) L (cols c l k) d)) ∧ ∃ F', SK w' p F' c l (chRes (rws c) (wds c) L (cols c l k) d) ∧ Kept F w w' ∧ (∀ q, F' q → F q ∨ w.heap.size ≤ q) := by
  have HS := Lib.hid h
  obtain ⟨hr, hok, hl0, hl1, b, gp, G, rfl, hb, hg, hGb, rfl⟩ := h
  have hbl := size_of_heap hb
  have c0w := grd_cell hb 0 (v := .pointer (some gp)) rfl
  have CY := Lib.hid (scolumns_yes _ _ c l L k w HS.out k0 k1 hk)
  have WY : Hid (∀ w', Below w.heap.size w w' → Calls Tryz.prog 27 #[.pointer (some ⟨b, 0, none⟩)] w' fun e w2 => e = .returned (.agg #[.func (.func 49) #[] #[], .func (.func 47) #[] #[], .bool true]) ∧ Below w'.heap.size w' w2) := Lib.hid (fun w' hb2 => way_lin _ _ c l L w' (HS.out.up hb2) hm)
  have hcl : (cols c l k).length = rws c := (cols_meet k0 hk).2.1
  have hrw := rws_bd hr
  have TL : Hid (∀ w' g, Below w.heap.size w w' → Ord.Mid w' g 0 (cols c l k) → w.heap.size ≤ g → Calls Tryz.prog 49 #[.pointer (some gp), .slice (some ⟨g, 0, none⟩) (rws c) (rws c), .int .i64 d] w' fun e w2 => e = .returned (.int .i64 (chCode (rws c) (wds c) L (cols c l k) d)) ∧ ∃ G', PG w2 gp G' (rws c) (wds c) (chRes (rws c) (wds c) L (cols c l k) d) ∧ Kept G w w2 ∧ (∀ q, G' q → G q ∨ w.heap.size ≤ q)) := Lib.hid (fun w' g hb2 hmid hg2 => (change_any gp G _ _ L _ _ _ _ d w' (pg_up hg hb2) hmid.rd (fun a ha hGa => by injection ha with ha; subst ha; have := (pgT gp G _ _ L).lt w hg g hGa; omega) hcl (by omega) (in64_cols c l k) d0 d1).mono (fun e w2 ⟨e1, G', h1, h2, h3⟩ => ⟨e1, G', h1, (Kept.of_below hb2).trans h2 (fun q hq h => h), fun q hq => (h3 q hq).elim .inl (fun h => .inr (Nat.le_trans hb2.size h))⟩))
  have HT : Hid (∀ w' G', PG w' gp G' (rws c) (wds c) (chRes (rws c) (wds c) L (cols c l k) d) → Kept G w w' → (∀ k, G' k → G k ∨ w.heap.size ≤ k) → ∃ F', SK w' ⟨b, 0, none⟩ F' c l (chRes (rws c) (wds c) L (cols c l k) d) ∧ Kept (fun k => k = b ∨ G k) w w' ∧ (∀ q, F' q → (q = b ∨ G q) ∨ w.heap.size ≤ q)) := Lib.hid (fun w' G' h1 h2 h3 => sk_turn hr hok hl0 hl1 hb hGb h1 h2 h3)
  obtain ⟨n, hn⟩ : ∃ n, rws c = n := ⟨_, rfl⟩
  obtain ⟨V, hV⟩ : ∃ V, chCode (rws c) (wds c) L (cols c l k) d = V := ⟨_, rfl⟩
  obtain ⟨R, hR⟩ : ∃ R, chRes (rws c) (wds c) L (cols c l k) d = R := ⟨_, rfl⟩
  rw [hV, hR] at TL
  rw [hR] at HT
  rw [hV, hR]
  rw [hn] at CY TL HT
  have hfd : ∀ w : World, (Instr.field 64 (.agg #[.func (.func 49) #[] #[], .func (.func 47) #[] #[], .bool true]) 0).run Tryz.prog w = .ok (.func (.func 49) #[] #[]) w := fun _ => by kernel_rfl
  clear hb hg hcl hrw hn hV hR hm hk
  go_enter Tryz.func17, Tryz.ntmps17
  go_wp2_with (go_at_call 26; (with_reducible refine CY.out.mono ?_); rintro e w1 ⟨g, rfl, hm1, hg1, hb1⟩; have HM1 := Lib.hid hm1; have HB1 := Lib.hid hb1; clear hm1 hb1)
  have c0 := cell_up c0w HB1.out
  have WY1 : Hid (∀ w', Below w1.heap.size w1 w' → _) := Lib.hid (fun w' hb2 => WY.out w' (below_call HB1.out hb2 (Nat.le_refl _)))
  have TL1 : Hid (∀ w', Below w1.heap.size w1 w' → _) := Lib.hid (fun w' hb2 => TL.out w' g (below_call HB1.out hb2 (Nat.le_refl _)) (HM1.out.up hb2) hg1)
  go_region_held3 (fun w' => w'.cell? ⟨b, 0, none⟩ = some (.pointer (some gp))) (first | (with_reducible assumption) | (with_reducible refine cell_up c0 ?_ <;> (repeat' (first | (with_reducible exact Below.refl _ _) | (with_reducible assumption) | (with_reducible refine below_over ?_ _ _) | (with_reducible refine Lw.below_alloc ?_ _) | (with_reducible refine Below.drew ?_) | (with_reducible refine below_drewN ?_ _) | (with_reducible refine Below.setCell ?_ ?_ _) | go_size)))) (first
    | (go_at_call 27; (with_reducible refine (WY1.out _ (by (repeat' (first | (with_reducible exact Below.refl _ _) | (with_reducible assumption) | (with_reducible refine below_over ?_ _ _) | (with_reducible refine Lw.below_alloc ?_ _) | (with_reducible refine Below.drew ?_) | (with_reducible refine below_drewN ?_ _) | (with_reducible refine Below.setCell ?_ ?_ _) | go_size)))).mono ?_); rintro e w' ⟨rfl, hb2⟩; obtain ⟨bs, d2, rfl⟩ := below_grow hb2; clear hb2)
    | (go_at_call 49; (with_reducible refine (TL1.out _ (by (repeat' (first | (with_reducible exact Below.refl _ _) | (with_reducible assumption) | (with_reducible refine below_over ?_ _ _) | (with_reducible refine Lw.below_alloc ?_ _) | (with_reducible refine Below.drew ?_) | (with_reducible refine below_drewN ?_ _) | (with_reducible refine Below.setCell ?_ ?_ _) | go_size)))).mono ?_); rintro e w6 ⟨rfl, G6, hp6, hk6, hf6⟩; have HP6 := Lib.hid hp6; have HK6 := Lib.hid hk6; have HF6 := Lib.hid hf6; have x0 : w6.cell? ⟨b, 0, none⟩ = some (.pointer (some gp)) := hk6.cell c0w hGb; clear hp6 hk6 hf6))
  all_goals go_wp2
  all_goals go_ret
  all_goals exact ⟨rfl, HT.out _ _ HP6.out HK6.out HF6.out⟩
set_option maxRecDepth 100000 in
set_option maxHeartbeats 4000000 in
theorem spoint_con (p : Addr) (F : Nat → Prop) (c : Cfg) (l : Int) (L : List (List Int)) (k : Int) (w : World) (h : SK w p F c l L) (k0 : 0 ≤ k) (k1 : k ≤ 18446744073709551615) (hk : k < keys c l) (hm : c.md = 2) :
    Calls Tryz.prog 8 #[.pointer (some p), .int .u64 k] w fun e w' => e = .returned (.tuple #[.int .i64 (lea L (cols c l k)), .int .i64 0]) ∧ Below w.heap.size w w' := by
  have HS := Lib.hid h
  obtain ⟨hr, hok, hl0, hl1, b, gp, G, rfl, hb, hg, hGb, rfl⟩ := h
  have hbl := size_of_heap hb
  have c0w := grd_cell hb 0 (v := .pointer (some gp)) rfl
  have CY := Lib.hid (scolumns_yes _ _ c l L k w HS.out k0 k1 hk)
  have WY : Hid (∀ w', Below w.heap.size w w' → Calls Tryz.prog 27 #[.pointer (some ⟨b, 0, none⟩)] w' fun e w2 => e = .returned (.agg #[.func (.func 46) #[] #[], .func (.func 47) #[] #[], .bool false]) ∧ Below w'.heap.size w' w2) := Lib.hid (fun w' hb2 => way_con _ _ c l L w' (HS.out.up hb2) hm)
  have hcl : (cols c l k).length = rws c := (cols_meet k0 hk).2.1
  have hrw := rws_bd hr
  have TL : Hid (∀ w' g, Below w.heap.size w w' → Ord.Mid w' g 0 (cols c l k) → Calls Tryz.prog 47 #[.pointer (some gp), .slice (some ⟨g, 0, none⟩) (rws c) (rws c)] w' fun e w2 => e = .returned (.tuple #[.int .i64 (lea L (cols c l k)), .int .i64 0]) ∧ Below w'.heap.size w' w2) := Lib.hid (fun w' g hb2 hmid => least_yes gp G _ _ L _ _ _ _ w' (pg_up hg hb2) hmid.rd hcl (by omega) (in64_cols c l k) (cols_meet k0 hk))
  obtain ⟨n, hn⟩ : ∃ n, rws c = n := ⟨_, rfl⟩
  obtain ⟨V, hV⟩ : ∃ V, lea L (cols c l k) = V := ⟨_, rfl⟩
  rw [hV] at TL ⊢
  rw [hn] at CY TL
  have hfd : ∀ w : World, (Instr.field 64 (.agg #[.func (.func 46) #[] #[], .func (.func 47) #[] #[], .bool false]) 1).run Tryz.prog w = .ok (.func (.func 47) #[] #[]) w := fun _ => by kernel_rfl
  clear hb hg hcl hrw hn hV hm hk
  go_enter Tryz.func8, Tryz.ntmps8
  go_wp2_with (go_at_call 26; (with_reducible refine CY.out.mono ?_); rintro e w1 ⟨g, rfl, hm1, hg1, hb1⟩; have HM1 := Lib.hid hm1; have HB1 := Lib.hid hb1; clear hm1 hb1)
  have c0 := cell_up c0w HB1.out
  have WY1 : Hid (∀ w', Below w1.heap.size w1 w' → _) := Lib.hid (fun w' hb2 => WY.out w' (below_call HB1.out hb2 (Nat.le_refl _)))
  have TL1 : Hid (∀ w', Below w1.heap.size w1 w' → _) := Lib.hid (fun w' hb2 => TL.out w' g (below_call HB1.out hb2 (Nat.le_refl _)) (HM1.out.up hb2))
  go_region_held3 (fun w' => w'.cell? ⟨b, 0, none⟩ = some (.pointer (some gp))) (first | (with_reducible assumption) | (with_reducible refine cell_up c0 ?_ <;> (repeat' (first | (with_reducible exact Below.refl _ _) | (with_reducible assumption) | (with_reducible refine below_over ?_ _ _) | (with_reducible refine Lw.below_alloc ?_ _) | (with_reducible refine Below.drew ?_) | (with_reducible refine below_drewN ?_ _) | (with_reducible refine Below.setCell ?_ ?_ _) | go_size)))) (first
    | (go_at_call 27; (with_reducible refine (WY1.out _ (by (repeat' (first | (with_reducible exact Below.refl _ _) | (with_reducible assumption) | (with_reducible refine below_over ?_ _ _) | (with_reducible refine Lw.below_alloc ?_ _) | (with_reducible refine Below.drew ?_) | (with_reducible refine below_drewN ?_ _) | (with_reducible refine Below.setCell ?_ ?_ _) | go_size)))).mono ?_); rintro e w' ⟨rfl, hb2⟩; obtain ⟨bs, d2, rfl⟩ := below_grow hb2; clear hb2)
    | (go_at_call 47; (with_reducible refine (TL1.out _ (by (repeat' (first | (with_reducible exact Below.refl _ _) | (with_reducible assumption) | (with_reducible refine below_over ?_ _ _) | (with_reducible refine Lw.below_alloc ?_ _) | (with_reducible refine Below.drew ?_) | (with_reducible refine below_drewN ?_ _) | (with_reducible refine Below.setCell ?_ ?_ _) | go_size)))).mono ?_); rintro e w' ⟨rfl, hb2⟩; obtain ⟨bs3, d3, rfl⟩ := below_grow hb2; clear hb2))
  all_goals go_wp2
  all_goals go_ret2
  all_goals exact ⟨rfl, below_call HB1.out (by (repeat' (first | (with_reducible exact Below.refl _ _) | (with_reducible assumption) | (with_reducible refine below_over ?_ _ _) | (with_reducible refine Lw.below_alloc ?_ _) | (with_reducible refine Below.drew ?_) | (with_reducible refine below_drewN ?_ _) | (with_reducible refine Below.setCell ?_ ?_ _) | go_size))) (Nat.le_refl _)⟩
set_option maxRecDepth 100000 in
set_option maxHeartbeats 4000000 in
theorem supd_con (p : Addr) (F : Nat → Prop) (c : Cfg) (l : Int) (L : List (List Int)) (k : Int) (w : World) (h : SK w p F c l L) (k0 : 0 ≤ k) (k1 : k ≤ 18446744073709551615) (d : Int) (d0 : -9223372036854775808 ≤ d) (d1 : d ≤ 9223372036854775807) (hk : k < keys c l) (hm : c.md = 2) :
    Calls Tryz.prog 17 #[.pointer (some p), .int .u64 k, .int .i64 d] w fun e w' => e = .returned (.int .i64 (rsCode (rws c) (wds c) L (cols c l k) d)) ∧ ∃ F', SK w' p F' c l (rsRes (rws c) (wds c) L (cols c l k) d) ∧ Kept F w w' ∧ (∀ q, F' q → F q ∨ w.heap.size ≤ q) := by
  have HS := Lib.hid h
  obtain ⟨hr, hok, hl0, hl1, b, gp, G, rfl, hb, hg, hGb, rfl⟩ := h
  have hbl := size_of_heap hb
  have c0w := grd_cell hb 0 (v := .pointer (some gp)) rfl
  have CY := Lib.hid (scolumns_yes _ _ c l L k w HS.out k0 k1 hk)
  have WY : Hid (∀ w', Below w.heap.size w w' → Calls Tryz.prog 27 #[.pointer (some ⟨b, 0, none⟩)] w' fun e w2 => e = .returned (.agg #[.func (.func 46) #[] #[], .func (.func 47) #[] #[], .bool false]) ∧ Below w'.heap.size w' w2) := Lib.hid (fun w' hb2 => way_con _ _ c l L w' (HS.out.up hb2) hm)
  have hcl : (cols c l k).length = rws c := (cols_meet k0 hk).2.1
  have hrw := rws_bd hr
  have TL : Hid (∀ w' g, Below w.heap.size w w' → Ord.Mid w' g 0 (cols c l k) → w.heap.size ≤ g → Calls Tryz.prog 46 #[.pointer (some gp), .slice (some ⟨g, 0, none⟩) (rws c) (rws c), .int .i64 d] w' fun e w2 => e = .returned (.int .i64 (rsCode (rws c) (wds c) L (cols c l k) d)) ∧ ∃ G', PG w2 gp G' (rws c) (wds c) (rsRes (rws c) (wds c) L (cols c l k) d) ∧ Kept G w w2 ∧ (∀ q, G' q → G q ∨ w.heap.size ≤ q)) := Lib.hid (fun w' g hb2 hmid hg2 => (raise_any gp G _ _ L _ _ _ _ d w' (pg_up hg hb2) hmid.rd (fun a ha hGa => by injection ha with ha; subst ha; have := (pgT gp G _ _ L).lt w hg g hGa; omega) hcl (by omega) (in64_cols c l k) d0 d1).mono (fun e w2 ⟨e1, G', h1, h2, h3⟩ => ⟨e1, G', h1, (Kept.of_below hb2).trans h2 (fun q hq h => h), fun q hq => (h3 q hq).elim .inl (fun h => .inr (Nat.le_trans hb2.size h))⟩))
  have HT : Hid (∀ w' G', PG w' gp G' (rws c) (wds c) (rsRes (rws c) (wds c) L (cols c l k) d) → Kept G w w' → (∀ k, G' k → G k ∨ w.heap.size ≤ k) → ∃ F', SK w' ⟨b, 0, none⟩ F' c l (rsRes (rws c) (wds c) L (cols c l k) d) ∧ Kept (fun k => k = b ∨ G k) w w' ∧ (∀ q, F' q → (q = b ∨ G q) ∨ w.heap.size ≤ q)) := Lib.hid (fun w' G' h1 h2 h3 => sk_turn hr hok hl0 hl1 hb hGb h1 h2 h3)
  obtain ⟨n, hn⟩ : ∃ n, rws c = n := ⟨_, rfl⟩
  obtain ⟨V, hV⟩ : ∃ V, rsCode (rws c) (wds c) L (cols c l k) d = V := ⟨_, rfl⟩
  obtain ⟨R, hR⟩ : ∃ R, rsRes (rws c) (wds c) L (cols c l k) d = R := ⟨_, rfl⟩
  rw [hV, hR] at TL
  rw [hR] at HT
  rw [hV, hR]
  rw [hn] at CY TL HT
  have hfd : ∀ w : World, (Instr.field 64 (.agg #[.func (.func 46) #[] #[], .func (.func 47) #[] #[], .bool false]) 0).run Tryz.prog w = .ok (.func (.func 46) #[] #[]) w := fun _ => by kernel_rfl
  clear hb hg hcl hrw hn hV hR hm hk
  go_enter Tryz.func17, Tryz.ntmps17
  go_wp2_with (go_at_call 26; (with_reducible refine CY.out.mono ?_); rintro e w1 ⟨g, rfl, hm1, hg1, hb1⟩; have HM1 := Lib.hid hm1; have HB1 := Lib.hid hb1; clear hm1 hb1)
  have c0 := cell_up c0w HB1.out
  have WY1 : Hid (∀ w', Below w1.heap.size w1 w' → _) := Lib.hid (fun w' hb2 => WY.out w' (below_call HB1.out hb2 (Nat.le_refl _)))
  have TL1 : Hid (∀ w', Below w1.heap.size w1 w' → _) := Lib.hid (fun w' hb2 => TL.out w' g (below_call HB1.out hb2 (Nat.le_refl _)) (HM1.out.up hb2) hg1)
  go_region_held3 (fun w' => w'.cell? ⟨b, 0, none⟩ = some (.pointer (some gp))) (first | (with_reducible assumption) | (with_reducible refine cell_up c0 ?_ <;> (repeat' (first | (with_reducible exact Below.refl _ _) | (with_reducible assumption) | (with_reducible refine below_over ?_ _ _) | (with_reducible refine Lw.below_alloc ?_ _) | (with_reducible refine Below.drew ?_) | (with_reducible refine below_drewN ?_ _) | (with_reducible refine Below.setCell ?_ ?_ _) | go_size)))) (first
    | (go_at_call 27; (with_reducible refine (WY1.out _ (by (repeat' (first | (with_reducible exact Below.refl _ _) | (with_reducible assumption) | (with_reducible refine below_over ?_ _ _) | (with_reducible refine Lw.below_alloc ?_ _) | (with_reducible refine Below.drew ?_) | (with_reducible refine below_drewN ?_ _) | (with_reducible refine Below.setCell ?_ ?_ _) | go_size)))).mono ?_); rintro e w' ⟨rfl, hb2⟩; obtain ⟨bs, d2, rfl⟩ := below_grow hb2; clear hb2)
    | (go_at_call 46; (with_reducible refine (TL1.out _ (by (repeat' (first | (with_reducible exact Below.refl _ _) | (with_reducible assumption) | (with_reducible refine below_over ?_ _ _) | (with_reducible refine Lw.below_alloc ?_ _) | (with_reducible refine Below.drew ?_) | (with_reducible refine below_drewN ?_ _) | (with_reducible refine Below.setCell ?_ ?_ _) | go_size)))).mono ?_); rintro e w6 ⟨rfl, G6, hp6, hk6, hf6⟩; have HP6 := Lib.hid hp6; have HK6 := Lib.hid hk6; have HF6 := Lib.hid hf6; have x0 : w6.cell? ⟨b, 0, none⟩ = some (.pointer (some gp)) := hk6.cell c0w hGb; clear hp6 hk6 hf6))
  all_goals go_wp2
  all_goals go_ret
  all_goals exact ⟨rfl, HT.out _ _ HP6.out HK6.out HF6.out⟩
set_option maxRecDepth 100000 in
set_option maxHeartbeats 4000000 in
theorem spoint_med (p : Addr) (F : Nat → Prop) (c : Cfg) (l : Int) (L : List (List Int)) (k : Int) (w : World) (h : SK w p F c l L) (k0 : 0 ≤ k) (k1 : k ≤ 18446744073709551615) (hk : k < keys c l) (hm : c.md = 3) :
    Calls Tryz.prog 8 #[.pointer (some p), .int .u64 k] w fun e w' => e = .returned (.tuple #[.int .i64 (Ord.kv (named L (cols c l k)) ((((named L (cols c l k)).length : Int) - 1) / 2)), .int .i64 0]) ∧ Below w.heap.size w w' := by
  have HS := Lib.hid h
  obtain ⟨hr, hok, hl0, hl1, b, gp, G, rfl, hb, hg, hGb, rfl⟩ := h
  have hbl := size_of_heap hb
  have c0w := grd_cell hb 0 (v := .pointer (some gp)) rfl
  have CY := Lib.hid (scolumns_yes _ _ c l L k w HS.out k0 k1 hk)
  have WY : Hid (∀ w', Below w.heap.size w w' → Calls Tryz.prog 27 #[.pointer (some ⟨b, 0, none⟩)] w' fun e w2 => e = .returned (.agg #[.func (.func 49) #[] #[], .func (.func 48) #[] #[], .bool true]) ∧ Below w'.heap.size w' w2) := Lib.hid (fun w' hb2 => way_med _ _ c l L w' (HS.out.up hb2) hm)
  have hcl : (cols c l k).length = rws c := (cols_meet k0 hk).2.1
  have hrw := rws_bd hr
  have TL : Hid (∀ w' g, Below w.heap.size w w' → Ord.Mid w' g 0 (cols c l k) → Calls Tryz.prog 48 #[.pointer (some gp), .slice (some ⟨g, 0, none⟩) (rws c) (rws c)] w' fun e w2 => e = .returned (.tuple #[.int .i64 (Ord.kv (named L (cols c l k)) ((((named L (cols c l k)).length : Int) - 1) / 2)), .int .i64 0]) ∧ Below w'.heap.size w' w2) := Lib.hid (fun w' g hb2 hmid => middle_yes gp G _ _ L _ _ _ _ w' (pg_up hg hb2) hmid.rd hcl (by omega) (in64_cols c l k) (cols_meet k0 hk))
  obtain ⟨n, hn⟩ : ∃ n, rws c = n := ⟨_, rfl⟩
  obtain ⟨V, hV⟩ : ∃ V, Ord.kv (named L (cols c l k)) ((((named L (cols c l k)).length : Int) - 1) / 2) = V := ⟨_, rfl⟩
  rw [hV] at TL ⊢
  rw [hn] at CY TL
  have hfd : ∀ w : World, (Instr.field 64 (.agg #[.func (.func 49) #[] #[], .func (.func 48) #[] #[], .bool true]) 1).run Tryz.prog w = .ok (.func (.func 48) #[] #[]) w := fun _ => by kernel_rfl
  clear hb hg hcl hrw hn hV hm hk
  go_enter Tryz.func8, Tryz.ntmps8
  go_wp2_with (go_at_call 26; (with_reducible refine CY.out.mono ?_); rintro e w1 ⟨g, rfl, hm1, hg1, hb1⟩; have HM1 := Lib.hid hm1; have HB1 := Lib.hid hb1; clear hm1 hb1)
  have c0 := cell_up c0w HB1.out
  have WY1 : Hid (∀ w', Below w1.heap.size w1 w' → _) := Lib.hid (fun w' hb2 => WY.out w' (below_call HB1.out hb2 (Nat.le_refl _)))
  have TL1 : Hid (∀ w', Below w1.heap.size w1 w' → _) := Lib.hid (fun w' hb2 => TL.out w' g (below_call HB1.out hb2 (Nat.le_refl _)) (HM1.out.up hb2))
  go_region_held3 (fun w' => w'.cell? ⟨b, 0, none⟩ = some (.pointer (some gp))) (first | (with_reducible assumption) | (with_reducible refine cell_up c0 ?_ <;> (repeat' (first | (with_reducible exact Below.refl _ _) | (with_reducible assumption) | (with_reducible refine below_over ?_ _ _) | (with_reducible refine Lw.below_alloc ?_ _) | (with_reducible refine Below.drew ?_) | (with_reducible refine below_drewN ?_ _) | (with_reducible refine Below.setCell ?_ ?_ _) | go_size)))) (first
    | (go_at_call 27; (with_reducible refine (WY1.out _ (by (repeat' (first | (with_reducible exact Below.refl _ _) | (with_reducible assumption) | (with_reducible refine below_over ?_ _ _) | (with_reducible refine Lw.below_alloc ?_ _) | (with_reducible refine Below.drew ?_) | (with_reducible refine below_drewN ?_ _) | (with_reducible refine Below.setCell ?_ ?_ _) | go_size)))).mono ?_); rintro e w' ⟨rfl, hb2⟩; obtain ⟨bs, d2, rfl⟩ := below_grow hb2; clear hb2)
    | (go_at_call 48; (with_reducible refine (TL1.out _ (by (repeat' (first | (with_reducible exact Below.refl _ _) | (with_reducible assumption) | (with_reducible refine below_over ?_ _ _) | (with_reducible refine Lw.below_alloc ?_ _) | (with_reducible refine Below.drew ?_) | (with_reducible refine below_drewN ?_ _) | (with_reducible refine Below.setCell ?_ ?_ _) | go_size)))).mono ?_); rintro e w' ⟨rfl, hb2⟩; obtain ⟨bs3, d3, rfl⟩ := below_grow hb2; clear hb2))
  all_goals go_wp2
  all_goals go_ret2
  all_goals exact ⟨rfl, below_call HB1.out (by (repeat' (first | (with_reducible exact Below.refl _ _) | (with_reducible assumption) | (with_reducible refine below_over ?_ _ _) | (with_reducible refine Lw.below_alloc ?_ _) | (with_reducible refine Below.drew ?_) | (with_reducible refine below_drewN ?_ _) | (with_reducible refine Below.setCell ?_ ?_ _) | go_size))) (Nat.le_refl _)⟩
set_option maxRecDepth 100000 in
set_option maxHeartbeats 4000000 in
theorem supd_med (p : Addr) (F : Nat → Prop) (c : Cfg) (l : Int) (L : List (List Int)) (k : Int) (w : World) (h : SK w p F c l L) (k0 : 0 ≤ k) (k1 : k ≤ 18446744073709551615) (d : Int) (d0 : -9223372036854775808 ≤ d) (d1 : d ≤ 9223372036854775807) (hk : k < keys c l) (hm : c.md = 3) :
    Calls Tryz.prog 17 #[.pointer (some p), .int .u64 k, .int .i64 d] w fun e w' => e = .returned (.int .i64 (chCode (rws c) (wds c) L (cols c l k) d)) ∧ ∃ F', SK w' p F' c l (chRes (rws c) (wds c) L (cols c l k) d) ∧ Kept F w w' ∧ (∀ q, F' q → F q ∨ w.heap.size ≤ q) := by
  have HS := Lib.hid h
  obtain ⟨hr, hok, hl0, hl1, b, gp, G, rfl, hb, hg, hGb, rfl⟩ := h
  have hbl := size_of_heap hb
  have c0w := grd_cell hb 0 (v := .pointer (some gp)) rfl
  have CY := Lib.hid (scolumns_yes _ _ c l L k w HS.out k0 k1 hk)
  have WY : Hid (∀ w', Below w.heap.size w w' → Calls Tryz.prog 27 #[.pointer (some ⟨b, 0, none⟩)] w' fun e w2 => e = .returned (.agg #[.func (.func 49) #[] #[], .func (.func 48) #[] #[], .bool true]) ∧ Below w'.heap.size w' w2) := Lib.hid (fun w' hb2 => way_med _ _ c l L w' (HS.out.up hb2) hm)
  have hcl : (cols c l k).length = rws c := (cols_meet k0 hk).2.1
  have hrw := rws_bd hr
  have TL : Hid (∀ w' g, Below w.heap.size w w' → Ord.Mid w' g 0 (cols c l k) → w.heap.size ≤ g → Calls Tryz.prog 49 #[.pointer (some gp), .slice (some ⟨g, 0, none⟩) (rws c) (rws c), .int .i64 d] w' fun e w2 => e = .returned (.int .i64 (chCode (rws c) (wds c) L (cols c l k) d)) ∧ ∃ G', PG w2 gp G' (rws c) (wds c) (chRes (rws c) (wds c) L (cols c l k) d) ∧ Kept G w w2 ∧ (∀ q, G' q → G q ∨ w.heap.size ≤ q)) := Lib.hid (fun w' g hb2 hmid hg2 => (change_any gp G _ _ L _ _ _ _ d w' (pg_up hg hb2) hmid.rd (fun a ha hGa => by injection ha with ha; subst ha; have := (pgT gp G _ _ L).lt w hg g hGa; omega) hcl (by omega) (in64_cols c l k) d0 d1).mono (fun e w2 ⟨e1, G', h1, h2, h3⟩ => ⟨e1, G', h1, (Kept.of_below hb2).trans h2 (fun q hq h => h), fun q hq => (h3 q hq).elim .inl (fun h => .inr (Nat.le_trans hb2.size h))⟩))
  have HT : Hid (∀ w' G', PG w' gp G' (rws c) (wds c) (chRes (rws c) (wds c) L (cols c l k) d) → Kept G w w' → (∀ k, G' k → G k ∨ w.heap.size ≤ k) → ∃ F', SK w' ⟨b, 0, none⟩ F' c l (chRes (rws c) (wds c) L (cols c l k) d) ∧ Kept (fun k => k = b ∨ G k) w w' ∧ (∀ q, F' q → (q = b ∨ G q) ∨ w.heap.size ≤ q)) := Lib.hid (fun w' G' h1 h2 h3 => sk_turn hr hok hl0 hl1 hb hGb h1 h2 h3)
  obtain ⟨n, hn⟩ : ∃ n, rws c = n := ⟨_, rfl⟩
  obtain ⟨V, hV⟩ : ∃ V, chCode (rws c) (wds c) L (cols c l k) d = V := ⟨_, rfl⟩
  obtain ⟨R, hR⟩ : ∃ R, chRes (rws c) (wds c) L (cols c l k) d = R := ⟨_, rfl⟩
  rw [hV, hR] at TL
  rw [hR] at HT
  rw [hV, hR]
  rw [hn] at CY TL HT
  have hfd : ∀ w : World, (Instr.field 64 (.agg #[.func (.func 49) #[] #[], .func (.func 48) #[] #[], .bool true]) 0).run Tryz.prog w = .ok (.func (.func 49) #[] #[]) w := fun _ => by kernel_rfl
  clear hb hg hcl hrw hn hV hR hm hk
  go_enter Tryz.func17, Tryz.ntmps17
  go_wp2_with (go_at_call 26; (with_reducible refine CY.out.mono ?_); rintro e w1 ⟨g, rfl, hm1, hg1, hb1⟩; have HM1 := Lib.hid hm1; have HB1 := Lib.hid hb1; clear hm1 hb1)
  have c0 := cell_up c0w HB1.out
  have WY1 : Hid (∀ w', Below w1.heap.size w1 w' → _) := Lib.hid (fun w' hb2 => WY.out w' (below_call HB1.out hb2 (Nat.le_refl _)))
  have TL1 : Hid (∀ w', Below w1.heap.size w1 w' → _) := Lib.hid (fun w' hb2 => TL.out w' g (below_call HB1.out hb2 (Nat.le_refl _)) (HM1.out.up hb2) hg1)
  go_region_held3 (fun w' => w'.cell? ⟨b, 0, none⟩ = some (.pointer (some gp))) (first | (with_reducible assumption) | (with_reducible refine cell_up c0 ?_ <;> (repeat' (first | (with_reducible exact Below.refl _ _) | (with_reducible assumption) | (with_reducible refine below_over ?_ _ _) | (with_reducible refine Lw.below_alloc ?_ _) | (with_reducible refine Below.drew ?_) | (with_reducible refine below_drewN ?_ _) | (with_reducible refine Below.setCell ?_ ?_ _) | go_size)))) (first
    | (go_at_call 27; (with_reducible refine (WY1.out _ (by (repeat' (first | (with_reducible exact Below.refl _ _) | (with_reducible assumption) | (with_reducible refine below_over ?_ _ _) | (with_reducible refine Lw.below_alloc ?_ _) | (with_reducible refine Below.drew ?_) | (with_reducible refine below_drewN ?_ _) | (with_reducible refine Below.setCell ?_ ?_ _) | go_size)))).mono ?_); rintro e w' ⟨rfl, hb2⟩; obtain ⟨bs, d2, rfl⟩ := below_grow hb2; clear hb2)
    | (go_at_call 49; (with_reducible refine (TL1.out _ (by (repeat' (first | (with_reducible exact Below.refl _ _) | (with_reducible assumption) | (with_reducible refine below_over ?_ _ _) | (with_reducible refine Lw.below_alloc ?_ _) | (with_reducible refine Below.drew ?_) | (with_reducible refine below_drewN ?_ _) | (with_reducible refine Below.setCell ?_ ?_ _) | go_size)))).mono ?_); rintro e w6 ⟨rfl, G6, hp6, hk6, hf6⟩; have HP6 := Lib.hid hp6; have HK6 := Lib.hid hk6; have HF6 := Lib.hid hf6; have x0 : w6.cell? ⟨b, 0, none⟩ = some (.pointer (some gp)) := hk6.cell c0w hGb; clear hp6 hk6 hf6))
  all_goals go_wp2
  all_goals go_ret
  all_goals exact ⟨rfl, HT.out _ _ HP6.out HK6.out HF6.out⟩
theorem spoint_any (p : Addr) (F : Nat → Prop) (c : Cfg) (l : Int) (L : List (List Int)) (k : Int) (w : World) (h : SK w p F c l L) (k0 : 0 ≤ k) (k1 : k ≤ 18446744073709551615) :
    Calls Tryz.prog 8 #[.pointer (some p), .int .u64 k] w fun e w' => e = .returned (.tuple #[.int .i64 (ptVal c l L k), .int .i64 (ptCode c l k)]) ∧ Below w.heap.size w w' := by
  unfold ptVal ptCode
  by_cases hk : keys c l ≤ k
  · rw [if_pos hk, if_pos hk]
    exact spoint_no p F c l L k w h k0 k1 hk
  rw [if_neg hk, if_neg hk]
  have hr := h.1
  have h3 : c.md = 1 ∨ c.md = 2 ∨ c.md = 3 := by have := hr.2.2.2.2.2.2; omega
  rcases h3 with h3 | h3 | h3
  · rw [if_neg (by omega)]; exact spoint_lin p F c l L k w h k0 k1 (by omega) h3
  · rw [if_neg (by omega)]; exact spoint_con p F c l L k w h k0 k1 (by omega) h3
  · rw [if_pos h3]; exact spoint_med p F c l L k w h k0 k1 (by omega) h3
theorem supd_any (p : Addr) (F : Nat → Prop) (c : Cfg) (l : Int) (L : List (List Int)) (k d : Int) (w : World) (h : SK w p F c l L) (k0 : 0 ≤ k) (k1 : k ≤ 18446744073709551615) (d0 : -9223372036854775808 ≤ d) (d1 : d ≤ 9223372036854775807) :
    Calls Tryz.prog 17 #[.pointer (some p), .int .u64 k, .int .i64 d] w fun e w' => e = .returned (.int .i64 (upCode c l L k d)) ∧ ∃ F', SK w' p F' c l (upRes c l L k d) ∧ Kept F w w' ∧ (∀ q, F' q → F q ∨ w.heap.size ≤ q) := by
  unfold upCode upRes
  by_cases hk : keys c l ≤ k
  · rw [if_pos hk, if_pos hk]
    exact (supd_no p F c l L k w h k0 k1 d d0 d1 hk).mono (fun e w' h2 => ⟨h2.1, F, h.up h2.2, Kept.of_below h2.2, fun q hq => .inl hq⟩)
  rw [if_neg hk, if_neg hk]
  have hr := h.1
  have h3 : c.md = 1 ∨ c.md = 2 ∨ c.md = 3 := by have := hr.2.2.2.2.2.2; omega
  rcases h3 with h3 | h3 | h3
  · rw [if_neg (by omega), if_neg (by omega)]; exact supd_lin p F c l L k w h k0 k1 d d0 d1 (by omega) h3
  · rw [if_pos h3, if_pos h3]; exact supd_con p F c l L k w h k0 k1 d d0 d1 (by omega) h3
  · rw [if_neg (by omega), if_neg (by omega)]; exact supd_med p F c l L k w h k0 k1 d d0 d1 (by omega) h3
set_option maxRecDepth 100000 in
set_option maxHeartbeats 4000000 in
theorem salike_nil (p : Addr) (F : Nat → Prop) (c : Cfg) (l : Int) (L : List (List Int)) (w : World) (h : SK w p F c l L) :
    Calls Tryz.prog 37 #[.pointer (some p), .pointer none] w fun e w' => e = .returned (.bool false) ∧ Below w.heap.size w w' := by
  obtain ⟨hr, hok, hl0, hl1, b, gp, G, rfl, hb, hg, hGb, rfl⟩ := h
  have c1 := grd_cell hb 1 (v := .int .i64 c.bt) rfl
  have c2 := grd_cell hb 2 (v := .int .i64 c.rw) rfl
  have c3 := grd_cell hb 3 (v := .int .i64 c.wd) rfl
  have c4 := grd_cell hb 4 (v := .int .i64 c.md) rfl
  have c5 := grd_cell hb 5 (v := .int .u64 c.sd) rfl
  have c6 := grd_cell hb 6 (v := .int .i64 l) rfl
  clear hb hg
  go_enter Tryz.func37, Tryz.ntmps37
  go_wp2
  go_quiet (fail)
  all_goals go_wp2
  all_goals go_ret
  all_goals exact ⟨rfl, by (repeat' (first | (with_reducible exact Below.refl _ _) | (with_reducible assumption) | (with_reducible refine below_over ?_ _ _) | (with_reducible refine Lw.below_alloc ?_ _) | (with_reducible refine Below.drew ?_) | (with_reducible refine below_drewN ?_ _) | (with_reducible refine Below.setCell ?_ ?_ _) | go_size))⟩
set_option maxRecDepth 100000 in
set_option maxHeartbeats 4000000 in
theorem salike_yes (p : Addr) (F : Nat → Prop) (c : Cfg) (l : Int) (L : List (List Int)) (q : Addr) (G : Nat → Prop) (M : List (List Int)) (w : World) (h : SK w p F c l L) (g : SK w q G c l M) :
    Calls Tryz.prog 37 #[.pointer (some p), .pointer (some q)] w fun e w' => e = .returned (.bool true) ∧ Below w.heap.size w w' := by
  obtain ⟨hr, hok, hl0, hl1, b, gp, G, rfl, hb, hg, hGb, rfl⟩ := h
  obtain ⟨hr2, hok2, gl0, gl1, b2, gp2, G2, rfl, hb2, hg2, hGb2, rfl⟩ := g
  have c1 := grd_cell hb 1 (v := .int .i64 c.bt) rfl
  have c2 := grd_cell hb 2 (v := .int .i64 c.rw) rfl
  have c3 := grd_cell hb 3 (v := .int .i64 c.wd) rfl
  have c4 := grd_cell hb 4 (v := .int .i64 c.md) rfl
  have c5 := grd_cell hb 5 (v := .int .u64 c.sd) rfl
  have c6 := grd_cell hb 6 (v := .int .i64 l) rfl
  have q1 := grd_cell hb2 1 (v := .int .i64 c.bt) rfl
  have q2 := grd_cell hb2 2 (v := .int .i64 c.rw) rfl
  have q3 := grd_cell hb2 3 (v := .int .i64 c.wd) rfl
  have q4 := grd_cell hb2 4 (v := .int .i64 c.md) rfl
  have q5 := grd_cell hb2 5 (v := .int .u64 c.sd) rfl
  have q6 := grd_cell hb2 6 (v := .int .i64 l) rfl
  clear hb hg hb2 hg2
  go_enter Tryz.func37, Tryz.ntmps37
  go_wp2
  go_quiet (fail)
  all_goals go_wp2
  all_goals go_ret
  all_goals exact ⟨rfl, by (repeat' (first | (with_reducible exact Below.refl _ _) | (with_reducible assumption) | (with_reducible refine below_over ?_ _ _) | (with_reducible refine Lw.below_alloc ?_ _) | (with_reducible refine Below.drew ?_) | (with_reducible refine below_drewN ?_ _) | (with_reducible refine Below.setCell ?_ ?_ _) | go_size))⟩
set_option maxRecDepth 100000 in
set_option maxHeartbeats 4000000 in
theorem salike_n0 (p : Addr) (F : Nat → Prop) (c : Cfg) (l : Int) (L : List (List Int)) (q : Addr) (G : Nat → Prop) (c' : Cfg) (l' : Int) (M : List (List Int)) (w : World) (h : SK w p F c l L) (g : SK w q G c' l' M)  (e0 : (c'.bt == c.bt) = false) :
    Calls Tryz.prog 37 #[.pointer (some p), .pointer (some q)] w fun e w' => e = .returned (.bool false) ∧ Below w.heap.size w w' := by
  obtain ⟨hr, hok, hl0, hl1, b, gp, G, rfl, hb, hg, hGb, rfl⟩ := h
  obtain ⟨hr2, hok2, gl0, gl1, b2, gp2, G2, rfl, hb2, hg2, hGb2, rfl⟩ := g
  have c1 := grd_cell hb 1 (v := .int .i64 c.bt) rfl
  have c2 := grd_cell hb 2 (v := .int .i64 c.rw) rfl
  have c3 := grd_cell hb 3 (v := .int .i64 c.wd) rfl
  have c4 := grd_cell hb 4 (v := .int .i64 c.md) rfl
  have c5 := grd_cell hb 5 (v := .int .u64 c.sd) rfl
  have c6 := grd_cell hb 6 (v := .int .i64 l) rfl
  have q1 := grd_cell hb2 1 (v := .int .i64 c'.bt) rfl
  have q2 := grd_cell hb2 2 (v := .int .i64 c'.rw) rfl
  have q3 := grd_cell hb2 3 (v := .int .i64 c'.wd) rfl
  have q4 := grd_cell hb2 4 (v := .int .i64 c'.md) rfl
  have q5 := grd_cell hb2 5 (v := .int .u64 c'.sd) rfl
  have q6 := grd_cell hb2 6 (v := .int .i64 l') rfl
  clear hb hg hb2 hg2
  go_enter Tryz.func37, Tryz.ntmps37
  go_wp2
  go_quiet (fail)
  all_goals go_wp2
  all_goals go_ret
  all_goals exact ⟨rfl, by (repeat' (first | (with_reducible exact Below.refl _ _) | (with_reducible assumption) | (with_reducible refine below_over ?_ _ _) | (with_reducible refine Lw.below_alloc ?_ _) | (with_reducible refine Below.drew ?_) | (with_reducible refine below_drewN ?_ _) | (with_reducible refine Below.setCell ?_ ?_ _) | go_size))⟩
set_option maxRecDepth 100000 in
set_option maxHeartbeats 4000000 in
theorem salike_n1 (p : Addr) (F : Nat → Prop) (c : Cfg) (l : Int) (L : List (List Int)) (q : Addr) (G : Nat → Prop) (c' : Cfg) (l' : Int) (M : List (List Int)) (w : World) (h : SK w p F c l L) (g : SK w q G c' l' M) (e0 : c'.bt = c.bt) (e1 : (c'.rw == c.rw) = false) :
    Calls Tryz.prog 37 #[.pointer (some p), .pointer (some q)] w fun e w' => e = .returned (.bool false) ∧ Below w.heap.size w w' := by
  obtain ⟨hr, hok, hl0, hl1, b, gp, G, rfl, hb, hg, hGb, rfl⟩ := h
  obtain ⟨hr2, hok2, gl0, gl1, b2, gp2, G2, rfl, hb2, hg2, hGb2, rfl⟩ := g
  have c1 := grd_cell hb 1 (v := .int .i64 c.bt) rfl
  have c2 := grd_cell hb 2 (v := .int .i64 c.rw) rfl
  have c3 := grd_cell hb 3 (v := .int .i64 c.wd) rfl
  have c4 := grd_cell hb 4 (v := .int .i64 c.md) rfl
  have c5 := grd_cell hb 5 (v := .int .u64 c.sd) rfl
  have c6 := grd_cell hb 6 (v := .int .i64 l) rfl
  have q1 := grd_cell hb2 1 (v := .int .i64 c'.bt) rfl
  have q2 := grd_cell hb2 2 (v := .int .i64 c'.rw) rfl
  have q3 := grd_cell hb2 3 (v := .int .i64 c'.wd) rfl
  have q4 := grd_cell hb2 4 (v := .int .i64 c'.md) rfl
  have q5 := grd_cell hb2 5 (v := .int .u64 c'.sd) rfl
  have q6 := grd_cell hb2 6 (v := .int .i64 l') rfl
  clear hb hg hb2 hg2
  go_enter Tryz.func37, Tryz.ntmps37
  go_wp2
  go_quiet (fail)
  all_goals go_wp2
  all_goals go_ret
  all_goals exact ⟨rfl, by (repeat' (first | (with_reducible exact Below.refl _ _) | (with_reducible assumption) | (with_reducible refine below_over ?_ _ _) | (with_reducible refine Lw.below_alloc ?_ _) | (with_reducible refine Below.drew ?_) | (with_reducible refine below_drewN ?_ _) | (with_reducible refine Below.setCell ?_ ?_ _) | go_size))⟩
set_option maxRecDepth 100000 in
set_option maxHeartbeats 4000000 in
theorem salike_n2 (p : Addr) (F : Nat → Prop) (c : Cfg) (l : Int) (L : List (List Int)) (q : Addr) (G : Nat → Prop) (c' : Cfg) (l' : Int) (M : List (List Int)) (w : World) (h : SK w p F c l L) (g : SK w q G c' l' M) (e0 : c'.bt = c.bt) (e1 : c'.rw = c.rw) (e2 : (c'.wd == c.wd) = false) :
    Calls Tryz.prog 37 #[.pointer (some p), .pointer (some q)] w fun e w' => e = .returned (.bool false) ∧ Below w.heap.size w w' := by
  obtain ⟨hr, hok, hl0, hl1, b, gp, G, rfl, hb, hg, hGb, rfl⟩ := h
  obtain ⟨hr2, hok2, gl0, gl1, b2, gp2, G2, rfl, hb2, hg2, hGb2, rfl⟩ := g
  have c1 := grd_cell hb 1 (v := .int .i64 c.bt) rfl
  have c2 := grd_cell hb 2 (v := .int .i64 c.rw) rfl
  have c3 := grd_cell hb 3 (v := .int .i64 c.wd) rfl
  have c4 := grd_cell hb 4 (v := .int .i64 c.md) rfl
  have c5 := grd_cell hb 5 (v := .int .u64 c.sd) rfl
  have c6 := grd_cell hb 6 (v := .int .i64 l) rfl
  have q1 := grd_cell hb2 1 (v := .int .i64 c'.bt) rfl
  have q2 := grd_cell hb2 2 (v := .int .i64 c'.rw) rfl
  have q3 := grd_cell hb2 3 (v := .int .i64 c'.wd) rfl
  have q4 := grd_cell hb2 4 (v := .int .i64 c'.md) rfl
  have q5 := grd_cell hb2 5 (v := .int .u64 c'.sd) rfl
  have q6 := grd_cell hb2 6 (v := .int .i64 l') rfl
  clear hb hg hb2 hg2
  go_enter Tryz.func37, Tryz.ntmps37
  go_wp2
  go_quiet (fail)
  all_goals go_wp2
  all_goals go_ret
  all_goals exact ⟨rfl, by (repeat' (first | (with_reducible exact Below.refl _ _) | (with_reducible assumption) | (with_reducible refine below_over ?_ _ _) | (with_reducible refine Lw.below_alloc ?_ _) | (with_reducible refine Below.drew ?_) | (with_reducible refine below_drewN ?_ _) | (with_reducible refine Below.setCell ?_ ?_ _) | go_size))⟩
set_option maxRecDepth 100000 in
set_option maxHeartbeats 4000000 in
theorem salike_n3 (p : Addr) (F : Nat → Prop) (c : Cfg) (l : Int) (L : List (List Int)) (q : Addr) (G : Nat → Prop) (c' : Cfg) (l' : Int) (M : List (List Int)) (w : World) (h : SK w p F c l L) (g : SK w q G c' l' M) (e0 : c'.bt = c.bt) (e1 : c'.rw = c.rw) (e2 : c'.wd = c.wd) (e3 : (c'.md == c.md) = false) :
    Calls Tryz.prog 37 #[.pointer (some p), .pointer (some q)] w fun e w' => e = .returned (.bool false) ∧ Below w.heap.size w w' := by
  obtain ⟨hr, hok, hl0, hl1, b, gp, G, rfl, hb, hg, hGb, rfl⟩ := h
  obtain ⟨hr2, hok2, gl0, gl1, b2, gp2, G2, rfl, hb2, hg2, hGb2, rfl⟩ := g
  have c1 := grd_cell hb 1 (v := .int .i64 c.bt) rfl
  have c2 := grd_cell hb 2 (v := .int .i64 c.rw) rfl
  have c3 := grd_cell hb 3 (v := .int .i64 c.wd) rfl
  have c4 := grd_cell hb 4 (v := .int .i64 c.md) rfl
  have c5 := grd_cell hb 5 (v := .int .u64 c.sd) rfl
  have c6 := grd_cell hb 6 (v := .int .i64 l) rfl
  have q1 := grd_cell hb2 1 (v := .int .i64 c'.bt) rfl
  have q2 := grd_cell hb2 2 (v := .int .i64 c'.rw) rfl
  have q3 := grd_cell hb2 3 (v := .int .i64 c'.wd) rfl
  have q4 := grd_cell hb2 4 (v := .int .i64 c'.md) rfl
  have q5 := grd_cell hb2 5 (v := .int .u64 c'.sd) rfl
  have q6 := grd_cell hb2 6 (v := .int .i64 l') rfl
  clear hb hg hb2 hg2
  go_enter Tryz.func37, Tryz.ntmps37
  go_wp2
  go_quiet (fail)
  all_goals go_wp2
  all_goals go_ret
  all_goals exact ⟨rfl, by (repeat' (first | (with_reducible exact Below.refl _ _) | (with_reducible assumption) | (with_reducible refine below_over ?_ _ _) | (with_reducible refine Lw.below_alloc ?_ _) | (with_reducible refine Below.drew ?_) | (with_reducible refine below_drewN ?_ _) | (with_reducible refine Below.setCell ?_ ?_ _) | go_size))⟩
set_option maxRecDepth 100000 in
set_option maxHeartbeats 4000000 in
theorem salike_n4 (p : Addr) (F : Nat → Prop) (c : Cfg) (l : Int) (L : List (List Int)) (q : Addr) (G : Nat → Prop) (c' : Cfg) (l' : Int) (M : List (List Int)) (w : World) (h : SK w p F c l L) (g : SK w q G c' l' M) (e0 : c'.bt = c.bt) (e1 : c'.rw = c.rw) (e2 : c'.wd = c.wd) (e3 : c'.md = c.md) (e4 : (c'.sd == c.sd) = false) :
    Calls Tryz.prog 37 #[.pointer (some p), .pointer (some q)] w fun e w' => e = .returned (.bool false) ∧ Below w.heap.size w w' := by
  obtain ⟨hr, hok, hl0, hl1, b, gp, G, rfl, hb, hg, hGb, rfl⟩ := h
  obtain ⟨hr2, hok2, gl0, gl1, b2, gp2, G2, rfl, hb2, hg2, hGb2, rfl⟩ := g
  have c1 := grd_cell hb 1 (v := .int .i64 c.bt) rfl
  have c2 := grd_cell hb 2 (v := .int .i64 c.rw) rfl
  have c3 := grd_cell hb 3 (v := .int .i64 c.wd) rfl
  have c4 := grd_cell hb 4 (v := .int .i64 c.md) rfl
  have c5 := grd_cell hb 5 (v := .int .u64 c.sd) rfl
  have c6 := grd_cell hb 6 (v := .int .i64 l) rfl
  have q1 := grd_cell hb2 1 (v := .int .i64 c'.bt) rfl
  have q2 := grd_cell hb2 2 (v := .int .i64 c'.rw) rfl
  have q3 := grd_cell hb2 3 (v := .int .i64 c'.wd) rfl
  have q4 := grd_cell hb2 4 (v := .int .i64 c'.md) rfl
  have q5 := grd_cell hb2 5 (v := .int .u64 c'.sd) rfl
  have q6 := grd_cell hb2 6 (v := .int .i64 l') rfl
  clear hb hg hb2 hg2
  go_enter Tryz.func37, Tryz.ntmps37
  go_wp2
  go_quiet (fail)
  all_goals go_wp2
  all_goals go_ret
  all_goals exact ⟨rfl, by (repeat' (first | (with_reducible exact Below.refl _ _) | (with_reducible assumption) | (with_reducible refine below_over ?_ _ _) | (with_reducible refine Lw.below_alloc ?_ _) | (with_reducible refine Below.drew ?_) | (with_reducible refine below_drewN ?_ _) | (with_reducible refine Below.setCell ?_ ?_ _) | go_size))⟩
set_option maxRecDepth 100000 in
set_option maxHeartbeats 4000000 in
theorem salike_n5 (p : Addr) (F : Nat → Prop) (c : Cfg) (l : Int) (L : List (List Int)) (q : Addr) (G : Nat → Prop) (c' : Cfg) (l' : Int) (M : List (List Int)) (w : World) (h : SK w p F c l L) (g : SK w q G c' l' M) (e0 : c'.bt = c.bt) (e1 : c'.rw = c.rw) (e2 : c'.wd = c.wd) (e3 : c'.md = c.md) (e4 : c'.sd = c.sd) (e5 : (l' == l) = false) :
    Calls Tryz.prog 37 #[.pointer (some p), .pointer (some q)] w fun e w' => e = .returned (.bool false) ∧ Below w.heap.size w w' := by
  obtain ⟨hr, hok, hl0, hl1, b, gp, G, rfl, hb, hg, hGb, rfl⟩ := h
  obtain ⟨hr2, hok2, gl0, gl1, b2, gp2, G2, rfl, hb2, hg2, hGb2, rfl⟩ := g
  have c1 := grd_cell hb 1 (v := .int .i64 c.bt) rfl
  have c2 := grd_cell hb 2 (v := .int .i64 c.rw) rfl
  have c3 := grd_cell hb 3 (v := .int .i64 c.wd) rfl
  have c4 := grd_cell hb 4 (v := .int .i64 c.md) rfl
  have c5 := grd_cell hb 5 (v := .int .u64 c.sd) rfl
  have c6 := grd_cell hb 6 (v := .int .i64 l) rfl
  have q1 := grd_cell hb2 1 (v := .int .i64 c'.bt) rfl
  have q2 := grd_cell hb2 2 (v := .int .i64 c'.rw) rfl
  have q3 := grd_cell hb2 3 (v := .int .i64 c'.wd) rfl
  have q4 := grd_cell hb2 4 (v := .int .i64 c'.md) rfl
  have q5 := grd_cell hb2 5 (v := .int .u64 c'.sd) rfl
  have q6 := grd_cell hb2 6 (v := .int .i64 l') rfl
  clear hb hg hb2 hg2
  go_enter Tryz.func37, Tryz.ntmps37
  go_wp2
  go_quiet (fail)
  all_goals go_wp2
  all_goals go_ret
  all_goals exact ⟨rfl, by (repeat' (first | (with_reducible exact Below.refl _ _) | (with_reducible assumption) | (with_reducible refine below_over ?_ _ _) | (with_reducible refine Lw.below_alloc ?_ _) | (with_reducible refine Below.drew ?_) | (with_reducible refine below_drewN ?_ _) | (with_reducible refine Below.setCell ?_ ?_ _) | go_size))⟩
theorem salike_any (p : Addr) (F : Nat → Prop) (c : Cfg) (l : Int) (L : List (List Int)) (q : Addr) (G : Nat → Prop) (c' : Cfg) (l' : Int) (M : List (List Int)) (w : World) (h : SK w p F c l L) (g : SK w q G c' l' M) :
    Calls Tryz.prog 37 #[.pointer (some p), .pointer (some q)] w fun e w' => e = .returned (.bool (decide (cfgE c c' = true ∧ l = l'))) ∧ Below w.heap.size w w' := by
  have no : ¬ (c.bt = c'.bt ∧ c.rw = c'.rw ∧ c.wd = c'.wd ∧ c.md = c'.md ∧ c.sd = c'.sd ∧ l = l') → decide (cfgE c c' = true ∧ l = l') = false := by
    intro hn
    refine decide_eq_false ?_
    rintro ⟨h1, h2⟩
    have h3 := of_decide_eq_true h1
    exact hn ⟨h3.1, h3.2.1, h3.2.2.1, h3.2.2.2.1, h3.2.2.2.2, h2⟩
  have bf : ∀ {a b : Int}, ¬ a = b → (a == b) = false := fun h => by simp [h]
  by_cases e0 : c'.bt = c.bt
  · by_cases e1 : c'.rw = c.rw
    · by_cases e2 : c'.wd = c.wd
      · by_cases e3 : c'.md = c.md
        · by_cases e4 : c'.sd = c.sd
          · by_cases e5 : l' = l
            · have e : c' = c := by cases c; cases c'; simp_all
              subst e e5
              have he : decide (cfgE c' c' = true ∧ l' = l') = true := by unfold cfgE; simp
              rw [he]
              exact salike_yes p F c' l' L q G M w h g
            · rw [no (fun h => e5 h.2.2.2.2.2.symm)]
              exact salike_n5 p F c l L q G c' l' M w h g e0 e1 e2 e3 e4 (bf e5)
          · rw [no (fun h => e4 h.2.2.2.2.1.symm)]
            exact salike_n4 p F c l L q G c' l' M w h g e0 e1 e2 e3 (bf e4)
        · rw [no (fun h => e3 h.2.2.2.1.symm)]
          exact salike_n3 p F c l L q G c' l' M w h g e0 e1 e2 (bf e3)
      · rw [no (fun h => e2 h.2.2.1.symm)]
        exact salike_n2 p F c l L q G c' l' M w h g e0 e1 (bf e2)
    · rw [no (fun h => e1 h.2.1.symm)]
      exact salike_n1 p F c l L q G c' l' M w h g e0 (bf e1)
  · rw [no (fun h => e0 h.1.symm)]
    exact salike_n0 p F c l L q G c' l' M w h g (bf e0)
theorem sk_apart {w : World} {gp : Addr} {G : Nat → Prop} {m n : Nat} {L : List (List Int)} (h : PG w gp G m n L) (hmn : 0 < m * n) {b : Nat} {x : Addr} {vs : List Value} (hv : 3 ≤ vs.length) (hb : w.heap[b]? = some (.cells (Value.pointer (some x) :: vs).toArray 56 (0, 0))) : ¬ G b := by
  obtain ⟨hd, b1, g1, cap, rfl, h1, hm, -, -, -, rfl⟩ := h
  rintro (rfl | rfl)
  · rw [h1] at hb
    injection hb with hb
    injection hb with hb
    have := congrArg Array.size hb
    simp at this
    omega
  · obtain ⟨us, e, h2, h3⟩ := hm
    rw [h2] at hb
    injection hb with hb
    injection hb with hb
    have hl : 0 < L.flatten.length := by rw [flat_dims hd]; exact hmn
    have h4 := h3 0 _ (List.getElem?_eq_getElem hl)
    rw [hb] at h4
    simp at h4
set_option maxRecDepth 100000 in
theorem smerge_nil (p : Addr) (F : Nat → Prop) (c : Cfg) (l : Int) (L : List (List Int)) (w : World) (h : SK w p F c l L) :
    Calls Tryz.prog 13 #[.pointer (some p), .pointer none] w fun e w' => e = .returned (.int .i64 5) ∧ Below w.heap.size w w' := by
  have CA := Lib.hid (salike_nil p F c l L w h)
  clear h
  go_enter Tryz.func13, Tryz.ntmps13
  go_wp2_with (go_at_call 37; (with_reducible refine CA.out.mono ?_); rintro e w1 ⟨rfl, hb1⟩; have HB1 := Lib.hid hb1; clear hb1)
  go_ret
  exact ⟨rfl, HB1.out⟩
set_option maxRecDepth 100000 in
theorem smerge_no (p : Addr) (F : Nat → Prop) (c : Cfg) (l : Int) (L : List (List Int)) (q : Addr) (G : Nat → Prop) (c' : Cfg) (l' : Int) (M : List (List Int)) (w : World) (h : SK w p F c l L) (g : SK w q G c' l' M) (hn : ¬ (cfgE c c' = true ∧ l = l')) :
    Calls Tryz.prog 13 #[.pointer (some p), .pointer (some q)] w fun e w' => e = .returned (.int .i64 5) ∧ Below w.heap.size w w' := by
  have CA := Lib.hid (salike_any p F c l L q G c' l' M w h g)
  rw [decide_eq_false hn] at CA
  clear h g hn
  go_enter Tryz.func13, Tryz.ntmps13
  go_wp2_with (go_at_call 37; (with_reducible refine CA.out.mono ?_); rintro e w1 ⟨rfl, hb1⟩; have HB1 := Lib.hid hb1; clear hb1)
  go_ret
  exact ⟨rfl, HB1.out⟩
set_option maxRecDepth 100000 in
set_option maxHeartbeats 4000000 in
theorem smerge_yes (p : Addr) (F : Nat → Prop) (c : Cfg) (l : Int) (L : List (List Int)) (q : Addr) (G' : Nat → Prop) (M : List (List Int)) (w : World) (h : SK w p F c l L) (g : SK w q G' c l M) :
    Calls Tryz.prog 13 #[.pointer (some p), .pointer (some q)] w fun e w' => e = .returned (.int .i64 (jcode (1) (rws c) (wds c) (rws c) (wds c) L M)) ∧ ∃ F', SK w' p F' c l (jres (1) (rws c) (wds c) (rws c) (wds c) L M) ∧ Kept F w w' ∧ (∀ k, F' k → F k ∨ w.heap.size ≤ k) := by
  have CA := Lib.hid (salike_yes p F c l L q G' M w h g)
  obtain ⟨hr, hok, hl0, hl1, b, gp, G, rfl, hb, hg, hGb, rfl⟩ := h
  obtain ⟨hr2, hok2, gl0, gl1, b2, gp2, G2, rfl, hb2, hg2, hGb2, rfl⟩ := g
  have hbl := size_of_heap hb
  have hbl2 := size_of_heap hb2
  have c0w := grd_cell hb 0 (v := .pointer (some gp)) rfl
  have c1w := grd_cell hb2 0 (v := .pointer (some gp2)) rfl
  have hap : ¬ G b2 := sk_apart hg (Nat.mul_pos (rws_bd hr).1 (wds_bd hr).1) (vs := [_, _, _, _, _, _]) (by simp) hb2
  have hap : ¬ G b2 := sk_apart hg (Nat.mul_pos (rws_bd hr).1 (wds_bd hr).1) (vs := [_, _, _, _, _, _]) (by simp) hb2
  have TL : Hid (∀ w', Below w.heap.size w w' → Calls Tryz.prog 38 #[.pointer (some gp), .pointer (some gp2)] w' fun e w2 => e = .returned (.int .i64 (jcode (1) (rws c) (wds c) (rws c) (wds c) L M)) ∧ ∃ G6, PG w2 gp G6 (rws c) (wds c) (jres (1) (rws c) (wds c) (rws c) (wds c) L M) ∧ Kept G w w2 ∧ (∀ q, G6 q → G q ∨ w.heap.size ≤ q)) := Lib.hid (fun w' hb2 => (plus_all gp gp2 G G2 _ _ _ _ L M w' (pg_up hg hb2) (pg_up hg2 hb2)).mono (fun e w2 ⟨e1, G', h1, h2, h3⟩ => ⟨e1, G', h1, (Kept.of_below hb2).trans h2 (fun q hq h => h), fun q hq => (h3 q hq).elim .inl (fun h => .inr (Nat.le_trans hb2.size h))⟩))
  have HT : Hid (∀ w' G', PG w' gp G' (rws c) (wds c) (jres (1) (rws c) (wds c) (rws c) (wds c) L M) → Kept G w w' → (∀ k, G' k → G k ∨ w.heap.size ≤ k) → ∃ F', SK w' ⟨b, 0, none⟩ F' c l (jres (1) (rws c) (wds c) (rws c) (wds c) L M) ∧ Kept (fun k => k = b ∨ G k) w w' ∧ (∀ q, F' q → (q = b ∨ G q) ∨ w.heap.size ≤ q)) := Lib.hid (fun w' G' h1 h2 h3 => sk_turn hr hok hl0 hl1 hb hGb h1 h2 h3)
  obtain ⟨V, hV⟩ : ∃ V, jcode (1) (rws c) (wds c) (rws c) (wds c) L M = V := ⟨_, rfl⟩
  obtain ⟨R, hR⟩ : ∃ R, jres (1) (rws c) (wds c) (rws c) (wds c) L M = R := ⟨_, rfl⟩
  rw [hV, hR] at TL
  rw [hR] at HT
  rw [hV, hR]
  clear hb hg hb2 hg2 hV hR
  go_enter Tryz.func13, Tryz.ntmps13
  go_wp2_with (first
    | (go_at_call 37; (with_reducible refine CA.out.mono ?_); rintro e w1 ⟨rfl, hb1⟩; have HB1 := Lib.hid hb1; clear hb1))
  have c0 := cell_up c0w HB1.out
  have c1 := cell_up c1w HB1.out
  have TL1 : Hid (∀ w', Below w1.heap.size w1 w' → _) := Lib.hid (fun w' hb2 => TL.out w' (below_call HB1.out hb2 (Nat.le_refl _)))
  go_region_held3 (fun w' => w'.cell? ⟨b, 0, none⟩ = some (.pointer (some gp)) ∧ w'.cell? ⟨b2, 0, none⟩ = some (.pointer (some gp2))) (first | (refine ⟨?_, ?_⟩ <;> (first | (with_reducible assumption) | (with_reducible refine cell_up c0 ?_) | (with_reducible refine cell_up c1 ?_)) <;> (repeat' (first | (with_reducible exact Below.refl _ _) | (with_reducible assumption) | (with_reducible refine below_over ?_ _ _) | (with_reducible refine Lw.below_alloc ?_ _) | (with_reducible refine Below.drew ?_) | (with_reducible refine below_drewN ?_ _) | (with_reducible refine Below.setCell ?_ ?_ _) | go_size)))) (first
    | (go_at_call 38; (with_reducible refine (TL1.out _ (by (repeat' (first | (with_reducible exact Below.refl _ _) | (with_reducible assumption) | (with_reducible refine below_over ?_ _ _) | (with_reducible refine Lw.below_alloc ?_ _) | (with_reducible refine Below.drew ?_) | (with_reducible refine below_drewN ?_ _) | (with_reducible refine Below.setCell ?_ ?_ _) | go_size)))).mono ?_); rintro e w6 ⟨rfl, G6, hp6, hk6, hf6⟩; have HP6 := Lib.hid hp6; have HK6 := Lib.hid hk6; have HF6 := Lib.hid hf6; have x0 : w6.cell? ⟨b, 0, none⟩ = some (.pointer (some gp)) := hk6.cell c0w hGb; have x1 : w6.cell? ⟨b2, 0, none⟩ = some (.pointer (some gp2)) := hk6.cell c1w hap; clear hp6 hk6 hf6))
  all_goals go_wp2
  all_goals go_ret
  all_goals exact ⟨rfl, HT.out _ _ HP6.out HK6.out HF6.out⟩
theorem smerge_any (p : Addr) (F : Nat → Prop) (c : Cfg) (l : Int) (L : List (List Int)) (q : Addr) (G : Nat → Prop) (c' : Cfg) (l' : Int) (M : List (List Int)) (w : World) (h : SK w p F c l L) (g : SK w q G c' l' M) :
    Calls Tryz.prog 13 #[.pointer (some p), .pointer (some q)] w fun e w' => e = .returned (.int .i64 (mgCode (1) c c' l l' L M)) ∧ ∃ F', SK w' p F' c l (mgRes (1) c c' l l' L M) ∧ Kept F w w' ∧ (∀ k, F' k → F k ∨ w.heap.size ≤ k) := by
  unfold mgCode mgRes
  by_cases hn : cfgE c c' = true ∧ l = l'
  · rw [if_pos hn, if_pos hn]
    have hc := of_decide_eq_true hn.1
    have e : c = c' := by cases c; cases c'; simp_all
    have e2 := hn.2
    subst e e2
    rw [if_neg (by omega), if_neg (by omega)]
    exact smerge_yes p F c l L q G M w h g
  · rw [if_neg hn, if_neg hn]
    exact (smerge_no p F c l L q G c' l' M w h g hn).mono (fun e w' h2 => ⟨h2.1, F, h.up h2.2, Kept.of_below h2.2, fun q hq => .inl hq⟩)
set_option maxRecDepth 100000 in
theorem ssub_nil (p : Addr) (F : Nat → Prop) (c : Cfg) (l : Int) (L : List (List Int)) (w : World) (h : SK w p F c l L) :
    Calls Tryz.prog 15 #[.pointer (some p), .pointer none] w fun e w' => e = .returned (.int .i64 5) ∧ Below w.heap.size w w' := by
  have CA := Lib.hid (salike_nil p F c l L w h)
  clear h
  go_enter Tryz.func15, Tryz.ntmps15
  go_wp2_with (go_at_call 37; (with_reducible refine CA.out.mono ?_); rintro e w1 ⟨rfl, hb1⟩; have HB1 := Lib.hid hb1; clear hb1)
  go_ret
  exact ⟨rfl, HB1.out⟩
set_option maxRecDepth 100000 in
theorem ssub_no (p : Addr) (F : Nat → Prop) (c : Cfg) (l : Int) (L : List (List Int)) (q : Addr) (G : Nat → Prop) (c' : Cfg) (l' : Int) (M : List (List Int)) (w : World) (h : SK w p F c l L) (g : SK w q G c' l' M) (hn : ¬ (cfgE c c' = true ∧ l = l')) :
    Calls Tryz.prog 15 #[.pointer (some p), .pointer (some q)] w fun e w' => e = .returned (.int .i64 5) ∧ Below w.heap.size w w' := by
  have CA := Lib.hid (salike_any p F c l L q G c' l' M w h g)
  rw [decide_eq_false hn] at CA
  clear h g hn
  go_enter Tryz.func15, Tryz.ntmps15
  go_wp2_with (go_at_call 37; (with_reducible refine CA.out.mono ?_); rintro e w1 ⟨rfl, hb1⟩; have HB1 := Lib.hid hb1; clear hb1)
  go_ret
  exact ⟨rfl, HB1.out⟩
set_option maxRecDepth 100000 in
set_option maxHeartbeats 4000000 in
theorem ssub_lin (p : Addr) (F : Nat → Prop) (c : Cfg) (l : Int) (L : List (List Int)) (q : Addr) (G' : Nat → Prop) (M : List (List Int)) (w : World) (h : SK w p F c l L) (g : SK w q G' c l M) (hm : c.md = 1) :
    Calls Tryz.prog 15 #[.pointer (some p), .pointer (some q)] w fun e w' => e = .returned (.int .i64 (jcode (-1) (rws c) (wds c) (rws c) (wds c) L M)) ∧ ∃ F', SK w' p F' c l (jres (-1) (rws c) (wds c) (rws c) (wds c) L M) ∧ Kept F w w' ∧ (∀ k, F' k → F k ∨ w.heap.size ≤ k) := by
  have CA := Lib.hid (salike_yes p F c l L q G' M w h g)
  have WY : Hid (∀ w', Below w.heap.size w w' → Calls Tryz.prog 27 #[.pointer (some p)] w' fun e w2 => e = .returned (.agg #[.func (.func 49) #[] #[], .func (.func 47) #[] #[], .bool true]) ∧ Below w'.heap.size w' w2) := Lib.hid (fun w' hb2 => way_lin _ _ c l L w' (h.up hb2) hm)
  have hfd : ∀ w : World, (Instr.field 64 (.agg #[.func (.func 49) #[] #[], .func (.func 47) #[] #[], .bool true]) 2).run Tryz.prog w = .ok (.bool true) w := fun _ => by kernel_rfl
  obtain ⟨hr, hok, hl0, hl1, b, gp, G, rfl, hb, hg, hGb, rfl⟩ := h
  obtain ⟨hr2, hok2, gl0, gl1, b2, gp2, G2, rfl, hb2, hg2, hGb2, rfl⟩ := g
  have hbl := size_of_heap hb
  have hbl2 := size_of_heap hb2
  have c0w := grd_cell hb 0 (v := .pointer (some gp)) rfl
  have c1w := grd_cell hb2 0 (v := .pointer (some gp2)) rfl
  have hap : ¬ G b2 := sk_apart hg (Nat.mul_pos (rws_bd hr).1 (wds_bd hr).1) (vs := [_, _, _, _, _, _]) (by simp) hb2
  have hap : ¬ G b2 := sk_apart hg (Nat.mul_pos (rws_bd hr).1 (wds_bd hr).1) (vs := [_, _, _, _, _, _]) (by simp) hb2
  have TL : Hid (∀ w', Below w.heap.size w w' → Calls Tryz.prog 40 #[.pointer (some gp), .pointer (some gp2)] w' fun e w2 => e = .returned (.int .i64 (jcode (-1) (rws c) (wds c) (rws c) (wds c) L M)) ∧ ∃ G6, PG w2 gp G6 (rws c) (wds c) (jres (-1) (rws c) (wds c) (rws c) (wds c) L M) ∧ Kept G w w2 ∧ (∀ q, G6 q → G q ∨ w.heap.size ≤ q)) := Lib.hid (fun w' hb2 => (minus_all gp gp2 G G2 _ _ _ _ L M w' (pg_up hg hb2) (pg_up hg2 hb2)).mono (fun e w2 ⟨e1, G', h1, h2, h3⟩ => ⟨e1, G', h1, (Kept.of_below hb2).trans h2 (fun q hq h => h), fun q hq => (h3 q hq).elim .inl (fun h => .inr (Nat.le_trans hb2.size h))⟩))
  have HT : Hid (∀ w' G', PG w' gp G' (rws c) (wds c) (jres (-1) (rws c) (wds c) (rws c) (wds c) L M) → Kept G w w' → (∀ k, G' k → G k ∨ w.heap.size ≤ k) → ∃ F', SK w' ⟨b, 0, none⟩ F' c l (jres (-1) (rws c) (wds c) (rws c) (wds c) L M) ∧ Kept (fun k => k = b ∨ G k) w w' ∧ (∀ q, F' q → (q = b ∨ G q) ∨ w.heap.size ≤ q)) := Lib.hid (fun w' G' h1 h2 h3 => sk_turn hr hok hl0 hl1 hb hGb h1 h2 h3)
  obtain ⟨V, hV⟩ : ∃ V, jcode (-1) (rws c) (wds c) (rws c) (wds c) L M = V := ⟨_, rfl⟩
  obtain ⟨R, hR⟩ : ∃ R, jres (-1) (rws c) (wds c) (rws c) (wds c) L M = R := ⟨_, rfl⟩
  rw [hV, hR] at TL
  rw [hR] at HT
  rw [hV, hR]
  clear hb hg hb2 hg2 hV hR hm
  go_enter Tryz.func15, Tryz.ntmps15
  go_wp2_with (first
    | (go_at_call 37; (with_reducible refine CA.out.mono ?_); rintro e w1 ⟨rfl, hb1⟩; have HB1 := Lib.hid hb1; clear hb1)
    | (go_at_call 27; (with_reducible refine (WY.out _ HB1.out).mono ?_); rintro e w2 ⟨rfl, hb2⟩; have HB2 := Lib.hid (below_call HB1.out hb2 (Nat.le_refl _)); clear hb2))
  have c0 := cell_up c0w HB2.out
  have c1 := cell_up c1w HB2.out
  have TL1 : Hid (∀ w', Below w2.heap.size w2 w' → _) := Lib.hid (fun w' hb2 => TL.out w' (below_call HB2.out hb2 (Nat.le_refl _)))
  go_region_held3 (fun w' => w'.cell? ⟨b, 0, none⟩ = some (.pointer (some gp)) ∧ w'.cell? ⟨b2, 0, none⟩ = some (.pointer (some gp2))) (first | (refine ⟨?_, ?_⟩ <;> (first | (with_reducible assumption) | (with_reducible refine cell_up c0 ?_) | (with_reducible refine cell_up c1 ?_)) <;> (repeat' (first | (with_reducible exact Below.refl _ _) | (with_reducible assumption) | (with_reducible refine below_over ?_ _ _) | (with_reducible refine Lw.below_alloc ?_ _) | (with_reducible refine Below.drew ?_) | (with_reducible refine below_drewN ?_ _) | (with_reducible refine Below.setCell ?_ ?_ _) | go_size)))) (first
    | (go_at_call 40; (with_reducible refine (TL1.out _ (by (repeat' (first | (with_reducible exact Below.refl _ _) | (with_reducible assumption) | (with_reducible refine below_over ?_ _ _) | (with_reducible refine Lw.below_alloc ?_ _) | (with_reducible refine Below.drew ?_) | (with_reducible refine below_drewN ?_ _) | (with_reducible refine Below.setCell ?_ ?_ _) | go_size)))).mono ?_); rintro e w6 ⟨rfl, G6, hp6, hk6, hf6⟩; have HP6 := Lib.hid hp6; have HK6 := Lib.hid hk6; have HF6 := Lib.hid hf6; have x0 : w6.cell? ⟨b, 0, none⟩ = some (.pointer (some gp)) := hk6.cell c0w hGb; have x1 : w6.cell? ⟨b2, 0, none⟩ = some (.pointer (some gp2)) := hk6.cell c1w hap; clear hp6 hk6 hf6))
  all_goals go_wp2
  all_goals go_ret
  all_goals exact ⟨rfl, HT.out _ _ HP6.out HK6.out HF6.out⟩
set_option maxRecDepth 100000 in
set_option maxHeartbeats 4000000 in
theorem ssub_con (p : Addr) (F : Nat → Prop) (c : Cfg) (l : Int) (L : List (List Int)) (q : Addr) (G' : Nat → Prop) (M : List (List Int)) (w : World) (h : SK w p F c l L) (g : SK w q G' c l M) (hm : c.md = 2) :
    Calls Tryz.prog 15 #[.pointer (some p), .pointer (some q)] w fun e w' => e = .returned (.int .i64 3) ∧ Below w.heap.size w w' := by
  have CA := Lib.hid (salike_yes p F c l L q G' M w h g)
  have WY : Hid (∀ w', Below w.heap.size w w' → Calls Tryz.prog 27 #[.pointer (some p)] w' fun e w2 => e = .returned (.agg #[.func (.func 46) #[] #[], .func (.func 47) #[] #[], .bool false]) ∧ Below w'.heap.size w' w2) := Lib.hid (fun w' hb2 => way_con _ _ c l L w' (h.up hb2) hm)
  have hfd : ∀ w : World, (Instr.field 64 (.agg #[.func (.func 46) #[] #[], .func (.func 47) #[] #[], .bool false]) 2).run Tryz.prog w = .ok (.bool false) w := fun _ => by kernel_rfl
  clear h g hm
  go_enter Tryz.func15, Tryz.ntmps15
  go_wp2_with (first
    | (go_at_call 37; (with_reducible refine CA.out.mono ?_); rintro e w1 ⟨rfl, hb1⟩; have HB1 := Lib.hid hb1; clear hb1)
    | (go_at_call 27; (with_reducible refine (WY.out _ HB1.out).mono ?_); rintro e w2 ⟨rfl, hb2⟩; have HB2 := Lib.hid (below_call HB1.out hb2 (Nat.le_refl _)); clear hb2))
  go_ret
  exact ⟨rfl, HB2.out⟩
set_option maxRecDepth 100000 in
set_option maxHeartbeats 4000000 in
theorem ssub_med (p : Addr) (F : Nat → Prop) (c : Cfg) (l : Int) (L : List (List Int)) (q : Addr) (G' : Nat → Prop) (M : List (List Int)) (w : World) (h : SK w p F c l L) (g : SK w q G' c l M) (hm : c.md = 3) :
    Calls Tryz.prog 15 #[.pointer (some p), .pointer (some q)] w fun e w' => e = .returned (.int .i64 (jcode (-1) (rws c) (wds c) (rws c) (wds c) L M)) ∧ ∃ F', SK w' p F' c l (jres (-1) (rws c) (wds c) (rws c) (wds c) L M) ∧ Kept F w w' ∧ (∀ k, F' k → F k ∨ w.heap.size ≤ k) := by
  have CA := Lib.hid (salike_yes p F c l L q G' M w h g)
  have WY : Hid (∀ w', Below w.heap.size w w' → Calls Tryz.prog 27 #[.pointer (some p)] w' fun e w2 => e = .returned (.agg #[.func (.func 49) #[] #[], .func (.func 48) #[] #[], .bool true]) ∧ Below w'.heap.size w' w2) := Lib.hid (fun w' hb2 => way_med _ _ c l L w' (h.up hb2) hm)
  have hfd : ∀ w : World, (Instr.field 64 (.agg #[.func (.func 49) #[] #[], .func (.func 48) #[] #[], .bool true]) 2).run Tryz.prog w = .ok (.bool true) w := fun _ => by kernel_rfl
  obtain ⟨hr, hok, hl0, hl1, b, gp, G, rfl, hb, hg, hGb, rfl⟩ := h
  obtain ⟨hr2, hok2, gl0, gl1, b2, gp2, G2, rfl, hb2, hg2, hGb2, rfl⟩ := g
  have hbl := size_of_heap hb
  have hbl2 := size_of_heap hb2
  have c0w := grd_cell hb 0 (v := .pointer (some gp)) rfl
  have c1w := grd_cell hb2 0 (v := .pointer (some gp2)) rfl
  have hap : ¬ G b2 := sk_apart hg (Nat.mul_pos (rws_bd hr).1 (wds_bd hr).1) (vs := [_, _, _, _, _, _]) (by simp) hb2
  have hap : ¬ G b2 := sk_apart hg (Nat.mul_pos (rws_bd hr).1 (wds_bd hr).1) (vs := [_, _, _, _, _, _]) (by simp) hb2
  have TL : Hid (∀ w', Below w.heap.size w w' → Calls Tryz.prog 40 #[.pointer (some gp), .pointer (some gp2)] w' fun e w2 => e = .returned (.int .i64 (jcode (-1) (rws c) (wds c) (rws c) (wds c) L M)) ∧ ∃ G6, PG w2 gp G6 (rws c) (wds c) (jres (-1) (rws c) (wds c) (rws c) (wds c) L M) ∧ Kept G w w2 ∧ (∀ q, G6 q → G q ∨ w.heap.size ≤ q)) := Lib.hid (fun w' hb2 => (minus_all gp gp2 G G2 _ _ _ _ L M w' (pg_up hg hb2) (pg_up hg2 hb2)).mono (fun e w2 ⟨e1, G', h1, h2, h3⟩ => ⟨e1, G', h1, (Kept.of_below hb2).trans h2 (fun q hq h => h), fun q hq => (h3 q hq).elim .inl (fun h => .inr (Nat.le_trans hb2.size h))⟩))
  have HT : Hid (∀ w' G', PG w' gp G' (rws c) (wds c) (jres (-1) (rws c) (wds c) (rws c) (wds c) L M) → Kept G w w' → (∀ k, G' k → G k ∨ w.heap.size ≤ k) → ∃ F', SK w' ⟨b, 0, none⟩ F' c l (jres (-1) (rws c) (wds c) (rws c) (wds c) L M) ∧ Kept (fun k => k = b ∨ G k) w w' ∧ (∀ q, F' q → (q = b ∨ G q) ∨ w.heap.size ≤ q)) := Lib.hid (fun w' G' h1 h2 h3 => sk_turn hr hok hl0 hl1 hb hGb h1 h2 h3)
  obtain ⟨V, hV⟩ : ∃ V, jcode (-1) (rws c) (wds c) (rws c) (wds c) L M = V := ⟨_, rfl⟩
  obtain ⟨R, hR⟩ : ∃ R, jres (-1) (rws c) (wds c) (rws c) (wds c) L M = R := ⟨_, rfl⟩
  rw [hV, hR] at TL
  rw [hR] at HT
  rw [hV, hR]
  clear hb hg hb2 hg2 hV hR hm
  go_enter Tryz.func15, Tryz.ntmps15
  go_wp2_with (first
    | (go_at_call 37; (with_reducible refine CA.out.mono ?_); rintro e w1 ⟨rfl, hb1⟩; have HB1 := Lib.hid hb1; clear hb1)
    | (go_at_call 27; (with_reducible refine (WY.out _ HB1.out).mono ?_); rintro e w2 ⟨rfl, hb2⟩; have HB2 := Lib.hid (below_call HB1.out hb2 (Nat.le_refl _)); clear hb2))
  have c0 := cell_up c0w HB2.out
  have c1 := cell_up c1w HB2.out
  have TL1 : Hid (∀ w', Below w2.heap.size w2 w' → _) := Lib.hid (fun w' hb2 => TL.out w' (below_call HB2.out hb2 (Nat.le_refl _)))
  go_region_held3 (fun w' => w'.cell? ⟨b, 0, none⟩ = some (.pointer (some gp)) ∧ w'.cell? ⟨b2, 0, none⟩ = some (.pointer (some gp2))) (first | (refine ⟨?_, ?_⟩ <;> (first | (with_reducible assumption) | (with_reducible refine cell_up c0 ?_) | (with_reducible refine cell_up c1 ?_)) <;> (repeat' (first | (with_reducible exact Below.refl _ _) | (with_reducible assumption) | (with_reducible refine below_over ?_ _ _) | (with_reducible refine Lw.below_alloc ?_ _) | (with_reducible refine Below.drew ?_) | (with_reducible refine below_drewN ?_ _) | (with_reducible refine Below.setCell ?_ ?_ _) | go_size)))) (first
    | (go_at_call 40; (with_reducible refine (TL1.out _ (by (repeat' (first | (with_reducible exact Below.refl _ _) | (with_reducible assumption) | (with_reducible refine below_over ?_ _ _) | (with_reducible refine Lw.below_alloc ?_ _) | (with_reducible refine Below.drew ?_) | (with_reducible refine below_drewN ?_ _) | (with_reducible refine Below.setCell ?_ ?_ _) | go_size)))).mono ?_); rintro e w6 ⟨rfl, G6, hp6, hk6, hf6⟩; have HP6 := Lib.hid hp6; have HK6 := Lib.hid hk6; have HF6 := Lib.hid hf6; have x0 : w6.cell? ⟨b, 0, none⟩ = some (.pointer (some gp)) := hk6.cell c0w hGb; have x1 : w6.cell? ⟨b2, 0, none⟩ = some (.pointer (some gp2)) := hk6.cell c1w hap; clear hp6 hk6 hf6))
  all_goals go_wp2
  all_goals go_ret
  all_goals exact ⟨rfl, HT.out _ _ HP6.out HK6.out HF6.out⟩
theorem ssub_any (p : Addr) (F : Nat → Prop) (c : Cfg) (l : Int) (L : List (List Int)) (q : Addr) (G : Nat → Prop) (c' : Cfg) (l' : Int) (M : List (List Int)) (w : World) (h : SK w p F c l L) (g : SK w q G c' l' M) :
    Calls Tryz.prog 15 #[.pointer (some p), .pointer (some q)] w fun e w' => e = .returned (.int .i64 (mgCode (-1) c c' l l' L M)) ∧ ∃ F', SK w' p F' c l (mgRes (-1) c c' l l' L M) ∧ Kept F w w' ∧ (∀ k, F' k → F k ∨ w.heap.size ≤ k) := by
  unfold mgCode mgRes
  by_cases hn : cfgE c c' = true ∧ l = l'
  · rw [if_pos hn, if_pos hn]
    have hc := of_decide_eq_true hn.1
    have e : c = c' := by cases c; cases c'; simp_all
    have e2 := hn.2
    subst e e2
    have h3 : c.md = 1 ∨ c.md = 2 ∨ c.md = 3 := by have := h.1.2.2.2.2.2.2; omega
    rcases h3 with h3 | h3 | h3
    · rw [if_neg (by omega), if_neg (by omega)]; exact ssub_lin p F c l L q G M w h g h3
    · rw [if_pos ⟨rfl, h3⟩, if_pos ⟨rfl, h3⟩]
      exact (ssub_con p F c l L q G M w h g h3).mono (fun e w' h2 => ⟨h2.1, F, h.up h2.2, Kept.of_below h2.2, fun q hq => .inl hq⟩)
    · rw [if_neg (by omega), if_neg (by omega)]; exact ssub_med p F c l L q G M w h g h3
  · rw [if_neg hn, if_neg hn]
    exact (ssub_no p F c l L q G c' l' M w h g hn).mono (fun e w' h2 => ⟨h2.1, F, h.up h2.2, Kept.of_below h2.2, fun q hq => .inl hq⟩)
theorem div_at {j m n : Nat} (hn : 1 ≤ n) (hj : j < m * n) : (j / n) < m ∧ j % n < n ∧ (j / n) * n + j % n = j := by
  refine ⟨Nat.div_lt_of_lt_mul (by rw [Nat.mul_comm]; exact hj), Nat.mod_lt _ (by omega), ?_⟩
  rw [Nat.mul_comm]
  exact Nat.div_add_mod j n
end Go.Proofs.YthecgkgnngpikaaGreat.Sk
/- What the statements of layer 10 lean on. Printed by wip/gen/sklaws.py. -/
namespace Go.Proofs.YthecgkgnngpikaaGreat.Sk
open Go Go.RowKit Lw Grd Lin Con Shp
set_option linter.unusedVariables false
set_option linter.unusedSimpArgs false
theorem ret_bs {a b : Bool} (h : a = b) : Ending.returned (.bool a) = Ending.returned (.bool b) := by rw [h]
theorem ret_is {k : IntKind} {a b : Int} (h : a = b) : Ending.returned (.int k a) = .returned (.int k b) := by rw [h]
set_option maxRecDepth 100000 in
theorem open_cfg_c : Tryz.prog.cellsOf 24 = 5 := by kernel_rfl
set_option maxRecDepth 100000 in
theorem open_cfg {H : Type} {enc : TypeId × Value → H} {w : World} {v : Value} {d : DataW H} {p : List MemPlace} {base : Nat} (hv : Value.okWide Tryz.prog w .any base 24 v)
    (h : DataW.Trod enc Tryz.prog w 0 (fun _ => true) true 24 v d p) :
    ∃ (x0 : Int) (x1 : Int) (x2 : Int) (x3 : Int) (x4 : Int), v = .agg #[.int .i64 x0, .int .i64 x1, .int .i64 x2, .int .i64 x3, .int .u64 x4] ∧ (-9223372036854775808 ≤ x0 ∧ x0 ≤ 9223372036854775807) ∧ (-9223372036854775808 ≤ x1 ∧ x1 ≤ 9223372036854775807) ∧ (-9223372036854775808 ≤ x2 ∧ x2 ≤ 9223372036854775807) ∧ (-9223372036854775808 ≤ x3 ∧ x3 ≤ 9223372036854775807) ∧ (0 ≤ x4 ∧ x4 ≤ 18446744073709551615) := by
  have hcs : ∃ cs : Array Value, v = .agg cs ∧ cs.size = Tryz.prog.cellsOf 24 := by
    simp only [Value.okWide, Tryz.underlying24] at hv
    obtain ⟨cs, h1, h2, _⟩ := hv
    exact ⟨cs, h1, h2⟩
  obtain ⟨⟨l⟩, rfl, hsz⟩ := hcs
  rw [open_cfg_c] at hsz
  obtain ⟨fuel, hf0⟩ := h
  obtain ⟨xs, k, _, _, _, hxl, hf⟩ := DataW.trod_struct Tryz.underlying24 hf0
  match xs, hxl, l, hsz with
  | [y0, y1, y2, y3, y4], _, [v0, v1, v2, v3, v4], _ =>
    have g0 := hf 0 _ rfl
    have g1 := hf 1 _ rfl
    have g2 := hf 2 _ rfl
    have g3 := hf 3 _ rfl
    have g4 := hf 4 _ rfl
    simp [Value.cells, show Tryz.prog.cellsOf 3 = 1 from by kernel_rfl, show Tryz.prog.cellsOf 22 = 1 from by kernel_rfl] at g0 g1 g2 g3 g4
    obtain ⟨x0, f0, _, w0⟩ := DataW.trod_int (show Tryz.prog.underlying 3 = some (.int .i64) by kernel_rfl) g0
    simp at f0
    subst f0
    obtain ⟨x1, f1, _, w1⟩ := DataW.trod_int (show Tryz.prog.underlying 3 = some (.int .i64) by kernel_rfl) g1
    simp at f1
    subst f1
    obtain ⟨x2, f2, _, w2⟩ := DataW.trod_int (show Tryz.prog.underlying 3 = some (.int .i64) by kernel_rfl) g2
    simp at f2
    subst f2
    obtain ⟨x3, f3, _, w3⟩ := DataW.trod_int (show Tryz.prog.underlying 3 = some (.int .i64) by kernel_rfl) g3
    simp at f3
    subst f3
    obtain ⟨x4, f4, _, w4⟩ := DataW.trod_int (show Tryz.prog.underlying 22 = some (.int .u64) by kernel_rfl) g4
    simp at f4
    subst f4
    exact ⟨x0, x1, x2, x3, x4, rfl, Lw.wf_i64 w0, Lw.wf_i64 w1, Lw.wf_i64 w2, Lw.wf_i64 w3, Lw.wf_u64 w4⟩
/-- A row of updates, handed in. -/
structure UpdV (w : World) (A : Option Addr) (n c : Nat) (qs : Ups) : Prop where
  nil : A = none → n = 0 ∧ c = 0
  nc : n ≤ c
  cm : c ≤ maxLen
  len : qs.length = n
  each : ∀ (i : Nat) q, qs[i]? = some q → ∃ a, A = some a ∧ w.cell? (a.add (i * 2)) = some (.int .u64 (q.1)) ∧ w.cell? (a.add (i * 2 + 1)) = some (.int .i64 (q.2)) ∧ (0 ≤ (q.1) ∧ (q.1) ≤ 18446744073709551615) ∧ (-9223372036854775808 ≤ (q.2) ∧ (q.2) ≤ 9223372036854775807)
theorem UpdV.up {w w' : World} {A : Option Addr} {n c : Nat} {qs : Ups} (h : UpdV w A n c qs) (hb : Below w.heap.size w w') : UpdV w' A n c qs :=
  ⟨h.nil, h.nc, h.cm, h.len, fun i q hq => by
    obtain ⟨a, e, h1, h2, h3⟩ := h.each i q hq
    exact ⟨a, e, cell_up h1 hb, cell_up h2 hb, h3⟩⟩
theorem UpdV.at {w : World} {A : Option Addr} {n c : Nat} {qs : Ups} (h : UpdV w A n c qs) {i : Nat} {q : Int × Int} (hq : qs[i]? = some q) : ∃ (a : Addr) (g o : Nat), A = some a ∧ a.add (i * 2) = ⟨g, o, none⟩ ∧ w.cell? ⟨g, o, none⟩ = some (.int .u64 q.1) ∧ w.cell? ⟨g, o + 1, none⟩ = some (.int .i64 q.2) ∧ (0 ≤ q.1 ∧ q.1 ≤ 18446744073709551615) ∧ (-9223372036854775808 ≤ q.2 ∧ q.2 ≤ 9223372036854775807) := by
  obtain ⟨a, e, h1, h2, h3, h4⟩ := h.each i q hq
  rw [← add_add'] at h2
  have hs : (a.add (i * 2)).spot = none := by
    unfold World.cell? at h1
    split at h1
    · split at h1
      · cases h1
      · rename_i hs; simpa using hs
    · cases h1
  obtain ⟨ad, had⟩ : ∃ ad, a.add (i * 2) = ad := ⟨_, rfl⟩
  rw [had] at h1 h2 hs
  obtain ⟨g, o, sp⟩ := ad
  simp only at hs
  subst hs
  rw [Ord.add_at] at h2
  exact ⟨a, g, o, e, had, h1, h2, h3, h4⟩
theorem rem_key (k K : Int) (k0 : 0 ≤ k) (k1 : k ≤ 18446744073709551615) (hK : 1 ≤ K) : Int.tmod k K = k % K ∧ 0 ≤ k % K ∧ k % K ≤ 18446744073709551615 := by
  have h1 := Int.emod_nonneg k (show K ≠ 0 by omega)
  have h2 : k % K ≤ k := by
    have h3 := Int.mul_ediv_add_emod k K
    have h4 := Int.mul_nonneg (show (0 : Int) ≤ K by omega) (Int.ediv_nonneg k0 (show (0 : Int) ≤ K by omega))
    omega
  exact ⟨Int.tmod_eq_emod_of_nonneg k0, h1, by omega⟩
/-- The updates, cut: sixty of them. -/
def upsA (c : Cfg) (l : Int) (qs : Ups) : Ups := (qs.take 60).map (cutU c l)
theorem upsA_get {c : Cfg} {l : Int} {qs : Ups} {k : Nat} {q : Int × Int} (hk : k < 60) (hq : qs[k]? = some q) : (upsA c l qs)[k]? = some (cutU c l q) := by
  unfold upsA
  rw [List.getElem?_map, List.getElem?_take, if_pos hk, hq]
  rfl
theorem upsA_all {c : Cfg} {l : Int} {qs : Ups} {k : Nat} (h : k = qs.length ∨ k = 60) (hk : k ≤ 60) : (upsA c l qs).take k = upsA c l qs := by
  refine List.take_of_length_le ?_
  unfold upsA
  rw [List.length_map, List.length_take]
  omega
theorem upsA_bd {c : Cfg} {l : Int} (qs : Ups) (hK : 1 ≤ keys c l) (k : Nat) : ∀ u ∈ (upsA c l qs).take k, -1099511627776 ≤ u.2 ∧ u.2 ≤ 1099511627776 := by
  intro u hu
  have h1 := List.mem_of_mem_take hu
  unfold upsA at h1
  obtain ⟨v, _, rfl⟩ := List.mem_map.1 h1
  have := cutU_ok hK v
  exact ⟨this.2.2.1, this.2.2.2.1⟩
end Go.Proofs.YthecgkgnngpikaaGreat.Sk
/- What sketches tell, in numbers: Point, the middle one, two that are merged. For stages from 10 on. -/
namespace Go.Proofs.YthecgkgnngpikaaGreat.Sk
open Go Go.RowKit Lw Grd Lin Con Shp
set_option linter.unusedVariables false
theorem pt_ok {c : Cfg} {l k : Int} (hk : k < keys c l) : ptCode c l k = 0 := if_neg (by omega)
theorem pt_least {c : Cfg} {l k : Int} {L : List (List Int)} (hk : k < keys c l) (hm : c.md ≠ 3) : ptVal c l L k = lea L (cols c l k) := by
  unfold ptVal
  rw [if_neg (by omega), if_neg hm]
theorem pt_middle {c : Cfg} {l k : Int} {L : List (List Int)} (hk : k < keys c l) (hm : c.md = 3) : ptVal c l L k = Ord.kv (named L (cols c l k)) ((((named L (cols c l k)).length : Int) - 1) / 2) := by
  unfold ptVal
  rw [if_neg (by omega), if_pos hm]
theorem cells_lin {c : Cfg} {l : Int} {us : Ups} (hm : c.md ≠ 2) : cells c l us = chAll (zerosL (rws c) (wds c)) (opsU c l us) := if_neg hm
theorem cells_con {c : Cfg} {l : Int} {us : Ups} (hm : c.md = 2) : cells c l us = rsAll (zerosL (rws c) (wds c)) (opsU c l us) := if_pos hm
/-- What others have in a key's column, row by row. -/
def othR (c : Cfg) (l k : Int) (us : Ups) : List Int := (List.range (rws c)).map (fun r => othK c l k r us)
theorem othR_get {c : Cfg} {l k : Int} {us : Ups} {r : Nat} (hr : r < rws c) : (othR c l k us)[r]? = some (othK c l k r us) := by
  unfold othR
  rw [List.getElem?_map, List.getElem?_range hr]
  rfl
theorem othR_len (c : Cfg) (l k : Int) (us : Ups) : (othR c l k us).length = rws c := by simp [othR]
theorem named_oth {c : Cfg} {l k b : Int} {us : Ups} (h : UpsOk c l b us) (k0 : 0 ≤ k) (hk : k < keys c l) :
    named (chAll (zerosL (rws c) (wds c)) (opsU c l us)) (cols c l k) = (othR c l k us).map (fun v => v + hasK k us) := by
  have hsz := chAll_sz (sz_zeros (rws c) (wds c)) (opsU_ok h)
  have hlen := named_klen hsz.1 k0 hk
  apply List.ext_getElem?
  intro r
  rw [List.getElem?_map]
  by_cases hr : r < rws c
  · rw [named_key h k0 hk hr, othR_get hr]
    simp
    omega
  · rw [List.getElem?_eq_none (by rw [hlen]; omega), List.getElem?_eq_none (by rw [othR_len]; omega)]
    rfl
/-- If more than half of the rows are not farther than so much from 0, Point is not from what the key has. -/
theorem median_near {c : Cfg} {l k b far : Int} {us : Ups} (hr : IsRight c) (h : UpsOk c l b us) (k0 : 0 ≤ k) (hk : k < keys c l) (hm : c.md = 3) (hn : (rws c : Int) < 2 * (Ord.near (othR c l k us) (-far) far : Int)) :
    hasK k us - far ≤ ptVal c l (cells c l us) k ∧ ptVal c l (cells c l us) k ≤ hasK k us + far := by
  rw [pt_middle hk hm, cells_lin (by omega), named_oth h k0 hk]
  have hl : 0 < (othR c l k us).length := by rw [othR_len]; exact (rws_bd hr).1
  have h1 := (Ord.moves (othR c l k us) (hasK k us) hl).1
  rw [h1]
  have h2 := Ord.near_median2 (othR c l k us) (-far) far (by rw [othR_len]; exact hn)
  omega
/-- Merged, two sketches of the modes Linear and Median are one that was fed all. -/
theorem merge_lin {c : Cfg} {l : Int} {us vs : Ups} (hr : IsRight c) (hm : c.md ≠ 2) (hu : UpsOk c l 1099511627776 us) (hv : UpsOk c l 1099511627776 vs) (hlu : us.length ≤ 60) (hlv : vs.length ≤ 60) :
    mgCode 1 c c l l (cells c l us) (cells c l vs) = 0 ∧ mgRes 1 c c l l (cells c l us) (cells c l vs) = cells c l (us ++ vs) := by
  have h1 := opsU_ok hu
  have h2 := opsU_ok hv
  have w1 := within_mono (chAll_within (c := 1099511627776) (by omega) (b := 0) (Int.le_refl _) (within_zeros (rws c) (wds c)) h1) (c := 65970697666560) (by rw [opsU_len]; omega)
  have w2 := within_mono (chAll_within (c := 1099511627776) (by omega) (b := 0) (Int.le_refl _) (within_zeros (rws c) (wds c)) h2) (c := 65970697666560) (by rw [opsU_len]; omega)
  have hj := jcode_yes (s := 1) (m := rws c) (n := wds c) (join_fits (m := rws c) (n := wds c) w1 w2)
  have hs1 := chAll_sz (sz_zeros (rws c) (wds c)) h1
  have hs2 := chAll_sz (sz_zeros (rws c) (wds c)) h2
  have h3 : OpsOk (rws c) (wds c) 1099511627776 (opsU c l (us ++ vs)) := opsU_ok (fun u hq => (List.mem_append.1 hq).elim (hu u) (hv u))
  have hs3 := chAll_sz (sz_zeros (rws c) (wds c)) h3
  have hce : cfgE c c = true := decide_eq_true ⟨rfl, rfl, rfl, rfl, rfl⟩
  have e : gridS 1 (chAll (zerosL (rws c) (wds c)) (opsU c l us)) (chAll (zerosL (rws c) (wds c)) (opsU c l vs)) = chAll (zerosL (rws c) (wds c)) (opsU c l (us ++ vs)) := by
    have key : Sz (rws c) (wds c) (gridS 1 (chAll (zerosL (rws c) (wds c)) (opsU c l us)) (chAll (zerosL (rws c) (wds c)) (opsU c l vs))) := by
      refine ⟨by unfold gridS; rw [List.length_zipWith, hs1.1, hs2.1]; omega, fun r hr => ?_⟩
      obtain ⟨a, g1, b, g2, rfl⟩ := mem_zip hr
      unfold rowS
      rw [List.length_zipWith, hs1.2 a g1, hs2.2 b g2]
      omega
    refine sz_ext key hs3 fun r q hrm hqn => ?_
    rw [chAll_cel hrm hqn (sz_zeros _ _) h3, opsU_app, hit_app, cel_zeros]
    have c1 := chAll_cel hrm hqn (sz_zeros (rws c) (wds c)) h1
    have c2 := chAll_cel hrm hqn (sz_zeros (rws c) (wds c)) h2
    rw [cel_zeros] at c1 c2
    have g1 : r < (chAll (zerosL (rws c) (wds c)) (opsU c l us)).length := by rw [hs1.1]; exact hrm
    have g2 : r < (chAll (zerosL (rws c) (wds c)) (opsU c l vs)).length := by rw [hs2.1]; exact hrm
    have g3 := hs1.2 _ (List.getElem_mem g1)
    have g4 := hs2.2 _ (List.getElem_mem g2)
    have c3 : cel (gridS 1 (chAll (zerosL (rws c) (wds c)) (opsU c l us)) (chAll (zerosL (rws c) (wds c)) (opsU c l vs))) r q = cel (chAll (zerosL (rws c) (wds c)) (opsU c l us)) r q + cel (chAll (zerosL (rws c) (wds c)) (opsU c l vs)) r q := by
      unfold cel gridS
      rw [List.getElem?_zipWith, List.getElem?_eq_getElem g1, List.getElem?_eq_getElem g2]
      simp only [Option.getD_some]
      unfold rowS
      rw [List.getElem?_zipWith, List.getElem?_eq_getElem (by omega), List.getElem?_eq_getElem (by omega)]
      simp
    rw [c3, c1, c2]
    omega
  unfold mgCode mgRes
  have hs1x : ¬ ((1 : Int) = -1 ∧ c.md = 2) := by omega
  rw [if_pos (show cfgE c c = true ∧ l = l from ⟨hce, rfl⟩), if_pos (show cfgE c c = true ∧ l = l from ⟨hce, rfl⟩), if_neg hs1x, if_neg hs1x]
  simp only [cells_lin hm]
  rw [← e]
  exact hj
/-- In the mode Conservative, parted and merged: Point is between what the key has and what it would be told in the mode Linear. -/
theorem merge_con {c d : Cfg} {l k : Int} {us vs : Ups} (hr : IsRight c) (hm : c.md = 2) (hd : d.md = 1) (hrd : rws d = rws c) (hwd : wds d = wds c) (hcols : ∀ q, cols d l q = cols c l q) (hkd : keys d l = keys c l)
    (hu : UpsIn c l us) (hv : UpsIn c l vs) (hlu : us.length ≤ 60) (hlv : vs.length ≤ 60) (k0 : 0 ≤ k) (hk : k < keys c l) :
    mgCode 1 c c l l (cells c l us) (cells c l vs) = 0 ∧ hasK k (us ++ vs) ≤ ptVal c l (mgRes 1 c c l l (cells c l us) (cells c l vs)) k ∧ ptVal c l (mgRes 1 c c l l (cells c l us) (cells c l vs)) k ≤ ptVal d l (cells d l (us ++ vs)) k := by
  have h1 := opsU_ok hu.1
  have h2 := opsU_ok hv.1
  have r1 := rose_all (rose_zero (rws c) (wds c)) h1 (plus_of hu hm)
  have r2 := rose_all (rose_zero (rws c) (wds c)) h2 (plus_of hv hm)
  have d1 := rose_dims h1 (plus_of hu hm) (by rw [opsU_len]; exact hlu)
  have d2 := rose_dims h2 (plus_of hv hm) (by rw [opsU_len]; exact hlv)
  have hj := jcode_yes (s := 1) (m := rws c) (n := wds c) (join_fits (m := rws c) (n := wds c) d1.2 d2.2)
  have hce : cfgE c c = true := decide_eq_true ⟨rfl, rfl, rfl, rfl, rfl⟩
  have hrj := r1.join r2
  rw [List.nil_append, List.nil_append, ← opsU_app] at hrj
  have hlo := hrj.lea_own (cols_meet k0 hk)
  have hall : UpsOk c l 1099511627776 (us ++ vs) := fun u hq => (List.mem_append.1 hq).elim (hu.1 u) (hv.1 u)
  have hpl : ∀ u ∈ us ++ vs, 0 ≤ u.2 := fun u hq => (List.mem_append.1 hq).elim (hu.2 hm u) (hv.2 hm u)
  have hown := hasK_own (k := k) hall hpl
  have hops : opsU d l (us ++ vs) = opsU c l (us ++ vs) := by unfold opsU; simp only [hcols]
  have hmg : mgCode 1 c c l l (cells c l us) (cells c l vs) = 0 ∧ mgRes 1 c c l l (cells c l us) (cells c l vs) = gridS 1 (cells c l us) (cells c l vs) := by
    unfold mgCode mgRes
    have hs1x : ¬ ((1 : Int) = -1 ∧ c.md = 2) := by omega
    rw [if_pos (show cfgE c c = true ∧ l = l from ⟨hce, rfl⟩), if_pos (show cfgE c c = true ∧ l = l from ⟨hce, rfl⟩), if_neg hs1x, if_neg hs1x]
    simp only [cells_con hm]
    exact hj
  refine ⟨hmg.1, ?_, ?_⟩
  · rw [hmg.2, pt_least hk (by omega), cells_con hm, cells_con hm]
    omega
  · rw [hmg.2, pt_least hk (by omega), pt_least (by rw [hkd]; exact hk) (by omega), cells_con hm, cells_con hm, cells_lin (by omega), hrd, hwd, hops, hcols]
    have hlin : gridS 1 (chAll (zerosL (rws c) (wds c)) (opsU c l us)) (chAll (zerosL (rws c) (wds c)) (opsU c l vs)) = chAll (zerosL (rws c) (wds c)) (opsU c l (us ++ vs)) := by
      have hx : ({ c with md := 1 } : Cfg).md ≠ 2 := by simp
      have hrx : IsRight { c with md := 1 } := ⟨hr.1, hr.2.1, hr.2.2.1, hr.2.2.2.1, hr.2.2.2.2.1, hr.2.2.2.2.2.1, by simp, by simp⟩
      have hkx : keys { c with md := 1 } l = keys c l := by
        unfold keys
        by_cases hl : 0 ≤ l ∧ l ≤ c.bt
        · rw [if_pos ⟨hrx, hl⟩, if_pos ⟨hr, hl⟩]
        · rw [if_neg (fun g => hl g.2), if_neg (fun g => hl g.2)]
      have hox : ∀ ws : Ups, opsU { c with md := 1 } l ws = opsU c l ws := fun ws => by
        unfold opsU cols
        rw [hkx]
        rfl
      have hux : UpsOk { c with md := 1 } l 1099511627776 us := fun u hq => by have := hu.1 u hq; rw [hkx]; exact this
      have hvx : UpsOk { c with md := 1 } l 1099511627776 vs := fun u hq => by have := hv.1 u hq; rw [hkx]; exact this
      have hmx := merge_lin hrx hx hux hvx hlu hlv
      rw [cells_lin hx, cells_lin hx, cells_lin hx, hox, hox, hox] at hmx
      have hw1 := join_fits (m := rws c) (n := wds c) d1.1 d2.1
      have e2 : mgRes 1 { c with md := 1 } { c with md := 1 } l l (chAll (zerosL (rws c) (wds c)) (opsU c l us)) (chAll (zerosL (rws c) (wds c)) (opsU c l vs)) = gridS 1 (chAll (zerosL (rws c) (wds c)) (opsU c l us)) (chAll (zerosL (rws c) (wds c)) (opsU c l vs)) := by
        unfold mgRes
        have hcx : cfgE { c with md := 1 } { c with md := 1 } = true := decide_eq_true ⟨rfl, rfl, rfl, rfl, rfl⟩
        rw [if_pos (show cfgE { c with md := 1 } { c with md := 1 } = true ∧ l = l from ⟨hcx, rfl⟩), if_neg (show ¬ ((1 : Int) = -1 ∧ ({ c with md := 1 } : Cfg).md = 2) from fun h => by have := h.1; omega)]
        exact (jcode_yes hw1).2
      exact e2.symm.trans hmx.2
    rw [← hlin]
    exact hlo.2.1
end Go.Proofs.YthecgkgnngpikaaGreat.Sk
/- others of layer 10's laws. Printed by wip/gen/skfed.py. -/
namespace Go.Proofs.YthecgkgnngpikaaGreat.Sk
open Go Go.RowKit Lw Grd Lin Con Shp
set_option linter.unusedVariables false
set_option linter.unusedSimpArgs false
theorem scols_any (c : Cfg) (l k : Int) (m : Nat) (w : World) (h : c.Ok) (l0 : -9223372036854775808 ≤ l) (l1 : l ≤ 9223372036854775807) (k0 : 0 ≤ k) (k1 : k ≤ 18446744073709551615) (hk : k < keys c l) (hm : rws c = m) :
    Calls Tryz.prog 45 #[.agg #[.int .i64 c.bt, .int .i64 c.rw, .int .i64 c.wd, .int .i64 c.md, .int .u64 c.sd], .int .i64 l, .int .u64 k] w fun e w' => ∃ (A : Addr) (cap : Nat), e = .returned (.slice (some A) m cap) ∧ Rd .i64 w' (some A) (cols c l k) ∧ Below w.heap.size w w' := by
  subst hm
  have hl : (cols c l k).length = rws c := by rw [cols_len, if_pos hk]; rfl
  refine (columns_any c l k w h l0 l1 k0 k1).mono fun e w' ⟨A, cap, he, hr, _, _, hb⟩ => ?_
  obtain ⟨a, rfl⟩ := hr.some_of (by rw [hl]; exact (rws_bd (keys_right k0 hk).1).1)
  rw [hl] at he
  exact ⟨a, cap, he, hr, hb⟩
end Go.Proofs.YthecgkgnngpikaaGreat.Sk
