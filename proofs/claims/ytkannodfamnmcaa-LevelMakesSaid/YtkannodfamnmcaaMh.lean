/- Texts that the statements of this seat lean on, put together: ExaCode, ExaRef, ExaLawA, ExaShr, LevCode. -/
import Derived.Test.YtkannodfamnmcaaMa
import Derived.Test.YtkannodfamnmcaaMb
import Derived.Test.YtkannodfamnmcaaMc
import Derived.Test.YtkannodfamnmcaaMd
import Derived.Test.YtkannodfamnmcaaMe
import Derived.Test.YtkannodfamnmcaaMf
import Derived.Test.YtkannodfamnmcaaMg
import Derived.Laws.EntriesVeiled
import Derived.Deep.LoopGhost
import Derived.Deep.RegionHeld3
import Derived.Deep.DeepCutAuto
import Derived.Deep.QuietTactic
import Derived.BigQuiet
/- The walks of package exact (the code's): an array is a block of its grid of one row, its config and its level. Printed by wip/gen/exacode.py. -/
namespace Go.Proofs.Ytkannodfamnmcaa.Exa
open Go Go.RowKit Lw Grd Lin Con Shp Sk
set_option linter.unusedVariables false
set_option linter.unusedSimpArgs false
/-- An array of the code at p, in the blocks F. -/
def EX (w : World) (p : Addr) (F : Nat → Prop) (c : Cfg) (l : Int) (L : List Int) : Prop :=
  IsRight c ∧ c.Ok ∧ 0 ≤ l ∧ l ≤ c.bt ∧ (L.length : Int) = keys c l ∧ 1 ≤ L.length ∧ L.length ≤ 128 ∧ ∃ (b : Nat) (gp : Addr) (G : Nat → Prop), p = ⟨b, 0, none⟩ ∧ w.heap[b]? = some (.cells #[.pointer (some gp), .int .i64 c.bt, .int .i64 c.rw, .int .i64 c.wd, .int .i64 c.md, .int .u64 c.sd, .int .i64 l] 69 (0, 0)) ∧ PG w gp G 1 L.length [L] ∧ ¬ G b ∧ F = (fun k => k = b ∨ G k)
theorem EX.in64 {w : World} {p : Addr} {F : Nat → Prop} {c : Cfg} {l : Int} {L : List Int} (h : EX w p F c l L) : In64 L := by
  obtain ⟨hr, hok, hl0, hl1, hlk, hn1, hn8, b, gp, G, rfl, hb, hg, hGb, rfl⟩ := h
  exact (hg.dims.rows L (by simp)).2
theorem EX.right {w : World} {p : Addr} {F : Nat → Prop} {c : Cfg} {l : Int} {L : List Int} (h : EX w p F c l L) : IsRight c ∧ 0 ≤ l ∧ l ≤ c.bt := ⟨h.1, h.2.2.1, h.2.2.2.1⟩
theorem EX.ok {w : World} {p : Addr} {F : Nat → Prop} {c : Cfg} {l : Int} {L : List Int} (h : EX w p F c l L) : c.Ok := h.2.1
theorem EX.size {w : World} {p : Addr} {F : Nat → Prop} {c : Cfg} {l : Int} {L : List Int} (h : EX w p F c l L) : (L.length : Int) = keys c l ∧ 1 ≤ L.length ∧ L.length ≤ 128 := ⟨h.2.2.2.2.1, h.2.2.2.2.2.1, h.2.2.2.2.2.2.1⟩
theorem EX.keep {w' : World} {H : Nat → Prop} {w : World} {p : Addr} {F : Nat → Prop} {c : Cfg} {l : Int} {L : List Int} (h : EX w p F c l L) (hk : Kept H w w') (hf : ∀ k, F k → ¬ H k) : EX w' p F c l L := by
  obtain ⟨hr, hok, hl0, hl1, hlk, hn1, hn8, b, gp, G, rfl, hb, hg, hGb, rfl⟩ := h
  exact ⟨hr, hok, hl0, hl1, hlk, hn1, hn8, b, gp, G, rfl, hk.heap hb (hf b (.inl rfl)), (pgT gp G _ _ [L]).keep w w' H hg hk (fun k h => hf k (.inr h)), hGb, rfl⟩
theorem EX.up {w' : World} {w : World} {p : Addr} {F : Nat → Prop} {c : Cfg} {l : Int} {L : List Int} (h : EX w p F c l L) (hk : Below w.heap.size w w') : EX w' p F c l L := h.keep (Kept.of_below (F := fun _ => False) hk) (fun _ _ h => h)
theorem EX.lt {w : World} {p : Addr} {F : Nat → Prop} {c : Cfg} {l : Int} {L : List Int} (h : EX w p F c l L) (k : Nat) (hk : F k) : k < w.heap.size := by
  obtain ⟨hr, hok, hl0, hl1, hlk, hn1, hn8, b, gp, G, rfl, hb, hg, hGb, rfl⟩ := h
  rcases hk with rfl | hk
  · exact size_of_heap hb
  · exact (pgT gp G _ _ [L]).lt w hg k hk
def exT (p : Addr) (F : Nat → Prop) (c : Cfg) (l : Int) (L : List Int) : Thing where
  I := fun w => EX w p F c l L
  F := F
  keep := fun w w' H h hk hf => h.keep hk hf
  lt := fun w h k hk => h.lt k hk
theorem exI {w : World} {p : Addr} {F : Nat → Prop} {c : Cfg} {l : Int} {L : List Int} (h : (exT p F c l L).I w) : EX w p F c l L := h
theorem ex_turn {w w' : World} {b : Nat} {gp : Addr} {G G' : Nat → Prop} {c : Cfg} {l : Int} {L M : List Int} (hr : IsRight c) (hok : c.Ok) (hl0 : 0 ≤ l) (hl1 : l ≤ c.bt) (hlk : (L.length : Int) = keys c l) (hn1 : 1 ≤ L.length) (hn8 : L.length ≤ 128)
    (hb : w.heap[b]? = some (.cells #[.pointer (some gp), .int .i64 c.bt, .int .i64 c.rw, .int .i64 c.wd, .int .i64 c.md, .int .u64 c.sd, .int .i64 l] 69 (0, 0))) (hGb : ¬ G b) (hM : M.length = L.length) (g' : PG w' gp G' 1 L.length [M]) (hk : Kept G w w') (hG : ∀ k, G' k → G k ∨ w.heap.size ≤ k) :
    ∃ F', EX w' ⟨b, 0, none⟩ F' c l M ∧ Kept (fun k => k = b ∨ G k) w w' ∧ (∀ q, F' q → (q = b ∨ G q) ∨ w.heap.size ≤ q) := by
  have hbl := size_of_heap hb
  refine ⟨_, ⟨hr, hok, hl0, hl1, by rw [hM]; exact hlk, by rw [hM]; exact hn1, by rw [hM]; exact hn8, b, gp, G', rfl, hk.heap hb hGb, by rw [hM]; exact g', fun h => ?_, rfl⟩, hk.mono (fun k _ h => .inr h), fun q hq => ?_⟩
  · rcases hG b h with h1 | h1
    · exact hGb h1
    · omega
  · rcases hq with rfl | h1
    · exact .inl (.inl rfl)
    · rcases hG q h1 with h2 | h2
      · exact .inl (.inr h2)
      · exact .inr h2
theorem elevel_any (p : Addr) (F : Nat → Prop) (c : Cfg) (l : Int) (L : List Int) (w : World) (h : EX w p F c l L) :
    Calls Try.prog 34 #[.pointer (some p)] w fun e w' => e = .returned (.int .i64 l) ∧ Below w.heap.size w w' := by
  obtain ⟨hr, hok, hl0, hl1, hlk, hn1, hn8, b, gp, G, rfl, hb, hg, hGb, rfl⟩ := h
  have c6 := grd_cell hb 6 (v := .int .i64 l) rfl
  clear hb hg
  go_enter Try.func34, Try.ntmps34
  go_wp2
  go_ret
  exact ⟨rfl, Below.refl _ _⟩
set_option maxRecDepth 100000 in
theorem econfig_any (p : Addr) (F : Nat → Prop) (c : Cfg) (l : Int) (L : List Int) (w : World) (h : EX w p F c l L) :
    Calls Try.prog 33 #[.pointer (some p)] w fun e w' => e = .returned (.agg #[.int .i64 c.bt, .int .i64 c.rw, .int .i64 c.wd, .int .i64 c.md, .int .u64 c.sd]) ∧ Below w.heap.size w w' := by
  obtain ⟨hr, hok, hl0, hl1, hlk, hn1, hn8, b, gp, G, rfl, hb, hg, hGb, rfl⟩ := h
  have hbl := size_of_heap hb
  have c0 := grd_cell hb 0 (v := .pointer (some gp)) rfl
  have c1 := grd_cell hb 1 (v := .int .i64 c.bt) rfl
  have c2 := grd_cell hb 2 (v := .int .i64 c.rw) rfl
  have c3 := grd_cell hb 3 (v := .int .i64 c.wd) rfl
  have c4 := grd_cell hb 4 (v := .int .i64 c.md) rfl
  have c5 := grd_cell hb 5 (v := .int .u64 c.sd) rfl
  have c6 := grd_cell hb 6 (v := .int .i64 l) rfl
  clear hb hg
  go_enter Try.func33, Try.ntmps33
  go_wp2
  go_returns
  exact ⟨rfl, (by repeat' (first | (with_reducible exact Below.refl _ _) | (with_reducible assumption) | (with_reducible refine below_over ?_ _ _) | (with_reducible refine Lw.below_alloc ?_ _) | (with_reducible refine Below.drew ?_) | (with_reducible refine below_drewN ?_ _) | (with_reducible refine Below.setCell ?_ ?_ _) | go_size))⟩
set_option maxRecDepth 100000 in
theorem efalls_any (p : Addr) (F : Nat → Prop) (c : Cfg) (l : Int) (L : List Int) (w : World) (h : EX w p F c l L) :
    Calls Try.prog 115 #[.pointer (some p)] w fun e w' => e = .returned (.bool (c.md != 2)) ∧ Below w.heap.size w w' := by
  obtain ⟨hr, hok, hl0, hl1, hlk, hn1, hn8, b, gp, G, rfl, hb, hg, hGb, rfl⟩ := h
  have hbl := size_of_heap hb
  have c4 := grd_cell hb 4 (v := .int .i64 c.md) rfl
  clear hb hg
  go_enter Try.func115, Try.ntmps115
  go_wp2
  go_ret
  exact ⟨rfl, (by repeat' (first | (with_reducible exact Below.refl _ _) | (with_reducible assumption) | (with_reducible refine below_over ?_ _ _) | (with_reducible refine Lw.below_alloc ?_ _) | (with_reducible refine Below.drew ?_) | (with_reducible refine below_drewN ?_ _) | (with_reducible refine Below.setCell ?_ ?_ _) | go_size))⟩
theorem ecells_mid (p : Addr) (F : Nat → Prop) (c : Cfg) (l : Int) (L : List Int) (w : World) (h : EX w p F c l L) :
    Calls Try.prog 35 #[.pointer (some p)] w fun e w' => ∃ (g cap : Nat), e = .returned (.slice (some ⟨g, 0, none⟩) L.length cap) ∧ Ord.Mid w' g 0 L ∧ w.heap.size ≤ g ∧ L.length ≤ cap ∧ cap ≤ maxLen ∧ Below w.heap.size w w' := by
  obtain ⟨hr, hok, hl0, hl1, hlk, hn1, hn8, b, gp, G, rfl, hb, hg, hGb, rfl⟩ := h
  have c0 := grd_cell hb 0 (v := .pointer (some gp)) rfl
  have C0 := cells_mid gp G _ _ [L] w hg
  rw [Nat.one_mul, show ([L] : List (List Int)).flatten = L by simp] at C0
  have C := Lib.hid C0
  clear hb hg C0
  go_enter Try.func35, Try.ntmps35
  go_wp2_with (go_at_call 42; (with_reducible refine C.out.mono ?_); rintro e w' ⟨A, cap, rfl, h1, h2, h3, h4, h5⟩)
  go_ret
  exact ⟨A, cap, rfl, h1, h2, h3, h4, h5⟩
set_option maxRecDepth 100000 in
set_option maxHeartbeats 4000000 in
theorem enew_no (c : Cfg) (l : Int) (w : World) (h : c.Ok) (l0 : -9223372036854775808 ≤ l) (l1 : l ≤ 9223372036854775807) (hx : exactB c l = false) :
    Calls Try.prog 17 #[.agg #[.int .i64 c.bt, .int .i64 c.rw, .int .i64 c.wd, .int .i64 c.md, .int .u64 c.sd], .int .i64 l] w fun e w' => e = .returned (.tuple #[.pointer none, .int .i64 1]) ∧ Below w.heap.size w w' := by
  have C := Lib.hid (fun w => exact_any c l w h l0 l1)
  rw [hx] at C
  clear hx
  go_enter Try.func17, Try.ntmps17
  go_wp2_with (go_at_call 16; (with_reducible refine (C.out _).mono ?_); rintro e w' ⟨rfl, hb9⟩; obtain ⟨bs, d9, rfl⟩ := below_grow hb9; clear hb9)
  go_ret2
  exact ⟨rfl, (by repeat' (first | (with_reducible exact Below.refl _ _) | (with_reducible assumption) | (with_reducible refine below_over ?_ _ _) | (with_reducible refine Lw.below_alloc ?_ _) | (with_reducible refine Below.drew ?_) | (with_reducible refine below_drewN ?_ _) | (with_reducible refine Below.setCell ?_ ?_ _) | go_size))⟩
set_option maxRecDepth 100000 in
set_option maxHeartbeats 4000000 in
theorem enew_yes (c : Cfg) (l : Int) (w : World) (h : c.Ok) (l0 : -9223372036854775808 ≤ l) (l1 : l ≤ 9223372036854775807) (hx : exactB c l = true) :
    Calls Try.prog 17 #[.agg #[.int .i64 c.bt, .int .i64 c.rw, .int .i64 c.wd, .int .i64 c.md, .int .u64 c.sd], .int .i64 l] w fun e w' => ∃ (p : Addr) (F : Nat → Prop), e = .returned (.tuple #[.pointer (some p), .int .i64 0]) ∧ EX w' p F c l (List.replicate (keys c l).toNat 0) ∧ (∀ k, F k → w.heap.size ≤ k) ∧ Below w.heap.size w w' := by
  have hx2 := of_decide_eq_true hx
  have hr := keys_pos.1 hx2.1
  have hw2 := wds_bd hr.1
  have C := Lib.hid (fun w => exact_any c l w h l0 l1)
  have CK := Lib.hid (fun w => keys_any c l w h l0 l1)
  have hwd := hr.1.2.2.2.2.2.1
  obtain ⟨n, hn⟩ : ∃ n : Nat, keys c l = (n : Int) := ⟨(keys c l).toNat, by omega⟩
  have hn1 : 1 ≤ n := by omega
  have hn8 : n ≤ 128 := by omega
  have N := Lib.hid (fun w => new_any 1 (n : Int) w (by omega) (by omega) (by omega) (by omega))
  have e1 : cl 1 8 = 1 := by decide
  have e2 : cl (n : Int) 128 = n := by unfold cl; omega
  have ez : zerosL 1 n = [List.replicate n 0] := rfl
  rw [e1, e2, ez] at N
  have HR := Lib.hid hr
  rw [hx] at C
  have HK := Lib.hid hn
  rw [hn] at CK ⊢
  rw [Int.toNat_natCast]
  have u1 : IntKind.i64.wrap (n : Int) = n := IntWalk.i64_in _ ⟨by omega, by omega⟩
  clear hr hw2 e1 e2 hx2 hx ez hwd hn
  go_enter Try.func17, Try.ntmps17
  go_wp2_with (first
    | (go_at_call 16; (with_reducible refine (C.out _).mono ?_); rintro e w' ⟨rfl, hb9⟩; obtain ⟨bs, d9, rfl⟩ := below_grow hb9; clear hb9)
    | (go_at_call 15; (with_reducible refine (CK.out _).mono ?_); rintro e w' ⟨rfl, hb9⟩; obtain ⟨bs2, d2, rfl⟩ := below_grow hb9; clear hb9)
    | (go_at_call 27; (with_reducible refine (N.out _).mono ?_); rintro e w2 ⟨gp, G, rfl, hg, hG, hb9⟩; have HB2 : Hid (Below w.heap.size w w2) := Lib.hid (below_call (show Below w.heap.size w _ from (by repeat' (first | (with_reducible exact Below.refl _ _) | (with_reducible assumption) | (with_reducible refine below_over ?_ _ _) | (with_reducible refine Lw.below_alloc ?_ _) | (with_reducible refine Below.drew ?_) | (with_reducible refine below_drewN ?_ _) | (with_reducible refine Below.setCell ?_ ?_ _) | go_size))) hb9 (Nat.le_refl _)); have HQ := Lib.hid hg; have HF : Hid (∀ k, G k → w.heap.size ≤ k) := Lib.hid (fun k hk => Nat.le_trans (Below.size (show Below w.heap.size w _ from (by repeat' (first | (with_reducible exact Below.refl _ _) | (with_reducible assumption) | (with_reducible refine below_over ?_ _ _) | (with_reducible refine Lw.below_alloc ?_ _) | (with_reducible refine Below.drew ?_) | (with_reducible refine below_drewN ?_ _) | (with_reducible refine Below.setCell ?_ ?_ _) | go_size)))) (hG k hk)); have x0 : w2.cell? ⟨w.heap.size, 0, none⟩ = some (.int .i64 c.bt) := cell_up (show World.cell? _ _ = _ by simp [go_sem]) hb9; have x1 : w2.cell? ⟨w.heap.size, 1, none⟩ = some (.int .i64 c.rw) := cell_up (show World.cell? _ _ = _ by simp [go_sem]) hb9; have x2 : w2.cell? ⟨w.heap.size, 2, none⟩ = some (.int .i64 c.wd) := cell_up (show World.cell? _ _ = _ by simp [go_sem]) hb9; have x3 : w2.cell? ⟨w.heap.size, 3, none⟩ = some (.int .i64 c.md) := cell_up (show World.cell? _ _ = _ by simp [go_sem]) hb9; have x4 : w2.cell? ⟨w.heap.size, 4, none⟩ = some (.int .u64 c.sd) := cell_up (show World.cell? _ _ = _ by simp [go_sem]) hb9; have hbw2 := HB2.out; clear hg hG hb9))
  go_ret2
  have hgl := fun k (hk : G k) => (pgT gp G _ _ _).lt _ HQ.out k hk
  have hnw := heap_alloc_new w2 (.cells #[.pointer (some gp), .int .i64 c.bt, .int .i64 c.rw, .int .i64 c.wd, .int .i64 c.md, .int .u64 c.sd, .int .i64 l] 69)
  have hs := HB2.out.size
  refine ⟨⟨w2.heap.size, 0, none⟩, fun k => k = w2.heap.size ∨ G k, rfl, ⟨HR.out.1, h, HR.out.2.1, HR.out.2.2, by rw [List.length_replicate, HK.out], by rw [List.length_replicate]; exact hn1, by rw [List.length_replicate]; exact hn8, _, gp, G, rfl, hnw, by rw [List.length_replicate]; exact pg_alloc HQ.out _, fun hk => by have := hgl _ hk; omega, rfl⟩, fun k hk => ?_, ?_⟩
  · rcases hk with rfl | hk
    · exact hs
    · exact HF.out k hk
  · exact HB2.out.alloc hs _
set_option maxRecDepth 100000 in
set_option maxHeartbeats 4000000 in
theorem epoint_no (p : Addr) (F : Nat → Prop) (c : Cfg) (l : Int) (L : List Int) (k : Int) (w : World) (h : EX w p F c l L) (k0 : 0 ≤ k) (k1 : k ≤ 18446744073709551615) (hk : (L.length : Int) ≤ k) :
    Calls Try.prog 112 #[.pointer (some p), .int .u64 k] w fun e w' => e = .returned (.tuple #[.int .i64 0, .int .i64 2]) ∧ Below w.heap.size w w' := by
  obtain ⟨hr, hok, hl0, hl1, hlk, hn1, hn8, b, gp, G, rfl, hb, hg, hGb, rfl⟩ := h
  have hbl := size_of_heap hb
  have c0 := grd_cell hb 0 (v := .pointer (some gp)) rfl
  have c1 := grd_cell hb 1 (v := .int .i64 c.bt) rfl
  have c2 := grd_cell hb 2 (v := .int .i64 c.rw) rfl
  have c3 := grd_cell hb 3 (v := .int .i64 c.wd) rfl
  have c4 := grd_cell hb 4 (v := .int .i64 c.md) rfl
  have c5 := grd_cell hb 5 (v := .int .u64 c.sd) rfl
  have c6 := grd_cell hb 6 (v := .int .i64 l) rfl
  have CK := Lib.hid (fun w => keys_any c l w hok (by omega) (by have := hr.2.1; omega))
  rw [← hlk] at CK
  clear hb hg hlk
  go_enter Try.func112, Try.ntmps112
  go_wp2
  go_region_held3 (fun w' => w'.cell? ⟨b, 1, none⟩ = some (.int .i64 c.bt) ∧ w'.cell? ⟨b, 2, none⟩ = some (.int .i64 c.rw) ∧ w'.cell? ⟨b, 3, none⟩ = some (.int .i64 c.wd) ∧ w'.cell? ⟨b, 4, none⟩ = some (.int .i64 c.md) ∧ w'.cell? ⟨b, 5, none⟩ = some (.int .u64 c.sd) ∧ w'.cell? ⟨b, 6, none⟩ = some (.int .i64 l)) (first | (refine ⟨?_, ?_, ?_, ?_, ?_, ?_⟩ <;> (first | (with_reducible assumption) | (with_reducible refine cell_up c1 ?_) | (with_reducible refine cell_up c2 ?_) | (with_reducible refine cell_up c3 ?_) | (with_reducible refine cell_up c4 ?_) | (with_reducible refine cell_up c5 ?_) | (with_reducible refine cell_up c6 ?_)) <;> (repeat' (first | (with_reducible exact Below.refl _ _) | (with_reducible assumption) | (with_reducible refine below_over ?_ _ _) | (with_reducible refine Lw.below_alloc ?_ _) | (with_reducible refine Below.drew ?_) | (with_reducible refine below_drewN ?_ _) | (with_reducible refine Below.setCell ?_ ?_ _) | go_size)))) (first
    | (go_at_call 15; (with_reducible refine (CK.out _).mono ?_); rintro e w' ⟨rfl, hb9⟩; obtain ⟨bs, d9, rfl⟩ := below_grow hb9; clear hb9))
  all_goals go_wp2
  all_goals go_ret2
  all_goals exact ⟨rfl, (by repeat' (first | (with_reducible exact Below.refl _ _) | (with_reducible assumption) | (with_reducible refine below_over ?_ _ _) | (with_reducible refine Lw.below_alloc ?_ _) | (with_reducible refine Below.drew ?_) | (with_reducible refine below_drewN ?_ _) | (with_reducible refine Below.setCell ?_ ?_ _) | go_size))⟩
set_option maxRecDepth 100000 in
set_option maxHeartbeats 4000000 in
theorem epoint_yes (p : Addr) (F : Nat → Prop) (c : Cfg) (l : Int) (L : List Int) (k : Int) (w : World) (h : EX w p F c l L) (k0 : 0 ≤ k) (k1 : k ≤ 18446744073709551615) (hk : k < (L.length : Int)) :
    Calls Try.prog 112 #[.pointer (some p), .int .u64 k] w fun e w' => e = .returned (.tuple #[.int .i64 (num L k), .int .i64 0]) ∧ Below w.heap.size w w' := by
  obtain ⟨hr, hok, hl0, hl1, hlk, hn1, hn8, b, gp, G, rfl, hb, hg, hGb, rfl⟩ := h
  have hbl := size_of_heap hb
  have c0 := grd_cell hb 0 (v := .pointer (some gp)) rfl
  have c1 := grd_cell hb 1 (v := .int .i64 c.bt) rfl
  have c2 := grd_cell hb 2 (v := .int .i64 c.rw) rfl
  have c3 := grd_cell hb 3 (v := .int .i64 c.wd) rfl
  have c4 := grd_cell hb 4 (v := .int .i64 c.md) rfl
  have c5 := grd_cell hb 5 (v := .int .u64 c.sd) rfl
  have c6 := grd_cell hb 6 (v := .int .i64 l) rfl
  have CK := Lib.hid (fun w => keys_any c l w hok (by omega) (by have := hr.2.1; omega))
  rw [← hlk] at CK
  have hkx : ¬ (L.length : Int) ≤ k := by omega
  have u1 : IntKind.i64.wrap k = k := IntWalk.i64_in _ ⟨by omega, by omega⟩
  have AT : Hid (∀ w', Below w.heap.size w w' → _) := Lib.hid (fun w' hb2 => at_any gp G 1 L.length [L] 0 k w' (pg_up hg hb2) (by omega) (by omega) (by omega) (by omega))
  rw [at_one L k0] at AT
  clear hb hg hlk
  go_enter Try.func112, Try.ntmps112
  go_wp2
  go_region_held3 (fun w' => w'.cell? ⟨b, 1, none⟩ = some (.int .i64 c.bt) ∧ w'.cell? ⟨b, 2, none⟩ = some (.int .i64 c.rw) ∧ w'.cell? ⟨b, 3, none⟩ = some (.int .i64 c.wd) ∧ w'.cell? ⟨b, 4, none⟩ = some (.int .i64 c.md) ∧ w'.cell? ⟨b, 5, none⟩ = some (.int .u64 c.sd) ∧ w'.cell? ⟨b, 6, none⟩ = some (.int .i64 l)) (first | (refine ⟨?_, ?_, ?_, ?_, ?_, ?_⟩ <;> (first | (with_reducible assumption) | (with_reducible refine cell_up c1 ?_) | (with_reducible refine cell_up c2 ?_) | (with_reducible refine cell_up c3 ?_) | (with_reducible refine cell_up c4 ?_) | (with_reducible refine cell_up c5 ?_) | (with_reducible refine cell_up c6 ?_)) <;> (repeat' (first | (with_reducible exact Below.refl _ _) | (with_reducible assumption) | (with_reducible refine below_over ?_ _ _) | (with_reducible refine Lw.below_alloc ?_ _) | (with_reducible refine Below.drew ?_) | (with_reducible refine below_drewN ?_ _) | (with_reducible refine Below.setCell ?_ ?_ _) | go_size)))) (first
    | (go_at_call 15; (with_reducible refine (CK.out _).mono ?_); rintro e w' ⟨rfl, hb9⟩; obtain ⟨bs, d9, rfl⟩ := below_grow hb9; clear hb9))
  all_goals (go_wp2_with (go_at_call 96; (with_reducible refine (AT.out _ (by repeat' (first | (with_reducible exact Below.refl _ _) | (with_reducible assumption) | (with_reducible refine below_over ?_ _ _) | (with_reducible refine Lw.below_alloc ?_ _) | (with_reducible refine Below.drew ?_) | (with_reducible refine below_drewN ?_ _) | (with_reducible refine Below.setCell ?_ ?_ _) | go_size))).mono ?_); rintro e w' ⟨rfl, hb9⟩; obtain ⟨bs2, d2, rfl⟩ := below_grow hb9; clear hb9))
  all_goals go_ret2
  all_goals exact ⟨rfl, (by repeat' (first | (with_reducible exact Below.refl _ _) | (with_reducible assumption) | (with_reducible refine below_over ?_ _ _) | (with_reducible refine Lw.below_alloc ?_ _) | (with_reducible refine Below.drew ?_) | (with_reducible refine below_drewN ?_ _) | (with_reducible refine Below.setCell ?_ ?_ _) | go_size))⟩
set_option maxRecDepth 100000 in
set_option maxHeartbeats 4000000 in
theorem esum_no (p : Addr) (F : Nat → Prop) (c : Cfg) (l : Int) (L : List Int) (k d : Int) (w : World) (h : EX w p F c l L) (k0 : 0 ≤ k) (k1 : k ≤ 18446744073709551615) (d0 : -9223372036854775808 ≤ d) (d1 : d ≤ 9223372036854775807) (hk : (L.length : Int) ≤ k) :
    Calls Try.prog 114 #[.pointer (some p), .int .u64 k, .int .i64 d] w fun e w' => e = .returned (.tuple #[.int .i64 (0), .int .i64 2]) ∧ Below w.heap.size w w' := by
  have CP := Lib.hid (epoint_no p F c l L k w h k0 k1 hk)
  clear h
  go_enter Try.func114, Try.ntmps114
  go_wp2_with (go_at_call 112; (with_reducible refine (CP.out).mono ?_); rintro e w1 ⟨rfl, hb9⟩; have HB1 := Lib.hid hb9; clear hb9)
  go_ret2
  exact ⟨rfl, HB1.out⟩
set_option maxRecDepth 100000 in
set_option maxHeartbeats 4000000 in
theorem esum_mode (p : Addr) (F : Nat → Prop) (c : Cfg) (l : Int) (L : List Int) (k d : Int) (w : World) (h : EX w p F c l L) (k0 : 0 ≤ k) (k1 : k ≤ 18446744073709551615) (d0 : -9223372036854775808 ≤ d) (d1 : d ≤ 9223372036854775807) (hk : k < (L.length : Int)) (hm : c.md = 2 ∧ d < 0) :
    Calls Try.prog 114 #[.pointer (some p), .int .u64 k, .int .i64 d] w fun e w' => e = .returned (.tuple #[.int .i64 (0), .int .i64 3]) ∧ Below w.heap.size w w' := by
  have CP := Lib.hid (epoint_yes p F c l L k w h k0 k1 hk)
  have FW : Hid (∀ w', Below w.heap.size w w' → _) := Lib.hid (fun w' hb2 => efalls_any p F c l L w' (h.up hb2))
  rw [show (c.md != 2) = false by simp [hm.1]] at FW
  have hd := hm.2
  clear h hm
  go_enter Try.func114, Try.ntmps114
  go_wp2_with (first
    | (go_at_call 112; (with_reducible refine (CP.out).mono ?_); rintro e w1 ⟨rfl, hb9⟩; have HB1 := Lib.hid hb9; clear hb9)
    | (go_at_call 115; (with_reducible refine (FW.out _ HB1.out).mono ?_); rintro e w2 ⟨rfl, hb9⟩; have HB2 := Lib.hid (below_call HB1.out hb9 (Nat.le_refl _)); clear hb9))
  go_ret2
  exact ⟨rfl, HB2.out⟩
set_option maxRecDepth 100000 in
set_option maxHeartbeats 4000000 in
theorem esum_over (p : Addr) (F : Nat → Prop) (c : Cfg) (l : Int) (L : List Int) (k d : Int) (w : World) (h : EX w p F c l L) (k0 : 0 ≤ k) (k1 : k ≤ 18446744073709551615) (d0 : -9223372036854775808 ≤ d) (d1 : d ≤ 9223372036854775807) (hk : k < (L.length : Int)) (hm : ¬ (c.md = 2 ∧ d < 0)) (hf : Wid.fit64 (num L k + d) = false) :
    Calls Try.prog 114 #[.pointer (some p), .int .u64 k, .int .i64 d] w fun e w' => e = .returned (.tuple #[.int .i64 (0), .int .i64 4]) ∧ Below w.heap.size w w' := by
  have hv : -9223372036854775808 ≤ num L k ∧ num L k ≤ 9223372036854775807 := by
    have h0 := h.in64
    obtain ⟨v, hv⟩ : ∃ v, L[k.toNat]? = some v := ⟨_, List.getElem?_eq_getElem (by omega)⟩
    have : num L k = v := by unfold num; rw [hv]; rfl
    rw [this]
    exact h0.at hv
  have CQ := Lib.hid (epoint_yes p F c l L k w h k0 k1 hk)
  have CP := Lib.hid (fun w => Wid.plus_any (num L k) d w hv.1 hv.2 d0 d1)
  rw [hf] at CP
  clear hf
  have FW : Hid (∀ w', Below w.heap.size w w' → _) := Lib.hid (fun w' hb2 => efalls_any p F c l L w' (h.up hb2))
  by_cases hd : d < 0
  · rw [show (c.md != 2) = true by simp; omega] at FW
    clear h hm hv
    go_enter Try.func114, Try.ntmps114
    go_wp2_with (first
      | (go_at_call 112; (with_reducible refine (CQ.out).mono ?_); rintro e w1 ⟨rfl, hb9⟩; have HB1 := Lib.hid hb9; clear hb9)
      | (go_at_call 115; (with_reducible refine (FW.out _ HB1.out).mono ?_); rintro e w2 ⟨rfl, hb9⟩; have HB2 := Lib.hid (below_call HB1.out hb9 (Nat.le_refl _)); clear hb9)
      | (go_at_call 45; (with_reducible refine (CP.out _).mono ?_); rintro e w3 ⟨rfl, hb9⟩; have HB3 := Lib.hid (below_call HB2.out hb9 (Nat.le_refl _)); clear hb9))
    go_ret2
    exact ⟨rfl, HB3.out⟩
  · clear h hm hv
    go_enter Try.func114, Try.ntmps114
    go_wp2_with (first
      | (go_at_call 112; (with_reducible refine (CQ.out).mono ?_); rintro e w1 ⟨rfl, hb9⟩; have HB1 := Lib.hid hb9; clear hb9)
      
      | (go_at_call 45; (with_reducible refine (CP.out _).mono ?_); rintro e w3 ⟨rfl, hb9⟩; have HB3 := Lib.hid (below_call HB1.out hb9 (Nat.le_refl _)); clear hb9))
    go_ret2
    exact ⟨rfl, HB3.out⟩
set_option maxRecDepth 100000 in
set_option maxHeartbeats 4000000 in
theorem esum_yes (p : Addr) (F : Nat → Prop) (c : Cfg) (l : Int) (L : List Int) (k d : Int) (w : World) (h : EX w p F c l L) (k0 : 0 ≤ k) (k1 : k ≤ 18446744073709551615) (d0 : -9223372036854775808 ≤ d) (d1 : d ≤ 9223372036854775807) (hk : k < (L.length : Int)) (hm : ¬ (c.md = 2 ∧ d < 0)) (hf : Wid.fit64 (num L k + d) = true) :
    Calls Try.prog 114 #[.pointer (some p), .int .u64 k, .int .i64 d] w fun e w' => e = .returned (.tuple #[.int .i64 (num L k + d), .int .i64 0]) ∧ Below w.heap.size w w' := by
  have hv : -9223372036854775808 ≤ num L k ∧ num L k ≤ 9223372036854775807 := by
    have h0 := h.in64
    obtain ⟨v, hv⟩ : ∃ v, L[k.toNat]? = some v := ⟨_, List.getElem?_eq_getElem (by omega)⟩
    have : num L k = v := by unfold num; rw [hv]; rfl
    rw [this]
    exact h0.at hv
  have CQ := Lib.hid (epoint_yes p F c l L k w h k0 k1 hk)
  have CP := Lib.hid (fun w => Wid.plus_any (num L k) d w hv.1 hv.2 d0 d1)
  have hfz := in64_fit hf
  rw [hf, (Wid.fit64_yes hfz.1 (by omega)).2] at CP
  obtain ⟨S, hS⟩ : ∃ S, num L k + d = S := ⟨_, rfl⟩
  rw [hS] at CP ⊢
  clear hf hfz hS
  have FW : Hid (∀ w', Below w.heap.size w w' → _) := Lib.hid (fun w' hb2 => efalls_any p F c l L w' (h.up hb2))
  by_cases hd : d < 0
  · rw [show (c.md != 2) = true by simp; omega] at FW
    clear h hm hv
    go_enter Try.func114, Try.ntmps114
    go_wp2_with (first
      | (go_at_call 112; (with_reducible refine (CQ.out).mono ?_); rintro e w1 ⟨rfl, hb9⟩; have HB1 := Lib.hid hb9; clear hb9)
      | (go_at_call 115; (with_reducible refine (FW.out _ HB1.out).mono ?_); rintro e w2 ⟨rfl, hb9⟩; have HB2 := Lib.hid (below_call HB1.out hb9 (Nat.le_refl _)); clear hb9)
      | (go_at_call 45; (with_reducible refine (CP.out _).mono ?_); rintro e w3 ⟨rfl, hb9⟩; have HB3 := Lib.hid (below_call HB2.out hb9 (Nat.le_refl _)); clear hb9))
    go_ret2
    exact ⟨rfl, HB3.out⟩
  · clear h hm hv
    go_enter Try.func114, Try.ntmps114
    go_wp2_with (first
      | (go_at_call 112; (with_reducible refine (CQ.out).mono ?_); rintro e w1 ⟨rfl, hb9⟩; have HB1 := Lib.hid hb9; clear hb9)
      
      | (go_at_call 45; (with_reducible refine (CP.out _).mono ?_); rintro e w3 ⟨rfl, hb9⟩; have HB3 := Lib.hid (below_call HB1.out hb9 (Nat.le_refl _)); clear hb9))
    go_ret2
    exact ⟨rfl, HB3.out⟩
def sumV (md : Int) (L : List Int) (k d : Int) : Int := if exCode md L k d = 0 then num L k + d else 0
theorem esum_any (p : Addr) (F : Nat → Prop) (c : Cfg) (l : Int) (L : List Int) (k d : Int) (w : World) (h : EX w p F c l L) (k0 : 0 ≤ k) (k1 : k ≤ 18446744073709551615) (d0 : -9223372036854775808 ≤ d) (d1 : d ≤ 9223372036854775807) :
    Calls Try.prog 114 #[.pointer (some p), .int .u64 k, .int .i64 d] w fun e w' => e = .returned (.tuple #[.int .i64 (sumV c.md L k d), .int .i64 (exCode c.md L k d)]) ∧ Below w.heap.size w w' := by
  by_cases hk : (L.length : Int) ≤ k
  · have e := ex_key (md := c.md) (d := d) hk
    rw [show sumV c.md L k d = 0 by unfold sumV; rw [e.1]; rfl, e.1]
    exact esum_no p F c l L k d w h k0 k1 d0 d1 hk
  have hk2 : k < (L.length : Int) := by omega
  by_cases hm : c.md = 2 ∧ d < 0
  · have e := ex_mode (md := c.md) (d := d) hk2 hm
    rw [show sumV c.md L k d = 0 by unfold sumV; rw [e.1]; rfl, e.1]
    exact esum_mode p F c l L k d w h k0 k1 d0 d1 hk2 hm
  cases hf : Wid.fit64 (num L k + d) with
  | true =>
    have e := ex_yes (md := c.md) hk2 hm hf
    rw [show sumV c.md L k d = num L k + d by unfold sumV; rw [e.1]; rfl, e.1]
    exact esum_yes p F c l L k d w h k0 k1 d0 d1 hk2 hm hf
  | false =>
    have e := ex_over (md := c.md) hk2 hm hf
    rw [show sumV c.md L k d = 0 by unfold sumV; rw [e.1]; rfl, e.1]
    exact esum_over p F c l L k d w h k0 k1 d0 d1 hk2 hm hf
set_option maxRecDepth 100000 in
set_option maxHeartbeats 4000000 in
theorem eupd_no (p : Addr) (F : Nat → Prop) (c : Cfg) (l : Int) (L : List Int) (k d : Int) (w : World) (h : EX w p F c l L) (k0 : 0 ≤ k) (k1 : k ≤ 18446744073709551615) (d0 : -9223372036854775808 ≤ d) (d1 : d ≤ 9223372036854775807) (hz : exCode c.md L k d ≠ 0) :
    Calls Try.prog 113 #[.pointer (some p), .int .u64 k, .int .i64 d] w fun e w' => e = .returned (.int .i64 (exCode c.md L k d)) ∧ Below w.heap.size w w' := by
  have CS := Lib.hid (esum_any p F c l L k d w h k0 k1 d0 d1)
  obtain ⟨V, hV⟩ : ∃ V, exCode c.md L k d = V := ⟨_, rfl⟩
  rw [hV] at CS hz ⊢
  have hz2 : (V == 0) = false := by simpa using hz
  clear h hV
  go_enter Try.func113, Try.ntmps113
  go_wp2_with (go_at_call 114; (with_reducible refine (CS.out).mono ?_); rintro e w1 ⟨rfl, hb9⟩; have HB1 := Lib.hid hb9; clear hb9)
  go_ret
  exact ⟨rfl, HB1.out⟩
set_option maxRecDepth 100000 in
set_option maxHeartbeats 4000000 in
theorem eupd_yes (p : Addr) (F : Nat → Prop) (c : Cfg) (l : Int) (L : List Int) (k d : Int) (w : World) (h : EX w p F c l L) (k0 : 0 ≤ k) (k1 : k ≤ 18446744073709551615) (d0 : -9223372036854775808 ≤ d) (d1 : d ≤ 9223372036854775807) (hz : exCode c.md L k d = 0) :
    Calls Try.prog 113 #[.pointer (some p), .int .u64 k, .int .i64 d] w fun e w' => e = .returned (.int .i64 0) ∧ ∃ F', EX w' p F' c l (exRes c.md L k d) ∧ Kept F w w' ∧ (∀ q, F' q → F q ∨ w.heap.size ≤ q) := by
  have CS := Lib.hid (esum_any p F c l L k d w h k0 k1 d0 d1)
  have hx := ex_zero hz
  have hfz := in64_fit hx.2
  rw [show sumV c.md L k d = num L k + d from if_pos hz, hz] at CS
  rw [show exRes c.md L k d = L.set k.toNat (num L k + d) from if_pos hz]
  obtain ⟨S, hS⟩ : ∃ S, num L k + d = S := ⟨_, rfl⟩
  rw [hS] at CS hfz ⊢
  obtain ⟨hr, hok, hl0, hl1, hlk, hn1, hn8, b, gp, G, rfl, hb, hg, hGb, rfl⟩ := h
  have hbl := size_of_heap hb
  have c0w := grd_cell hb 0 (v := .pointer (some gp)) rfl
  have u1 : IntKind.i64.wrap k = k := IntWalk.i64_in _ ⟨by omega, by omega⟩
  have PT : Hid (∀ w', Below w.heap.size w w' → Calls Try.prog 90 #[.pointer (some gp), .int .i64 0, .int .i64 k, .int .i64 S] w' fun e w2 => (∃ b, e = .returned (.bool b)) ∧ ∃ G', PG w2 gp G' 1 L.length [L.set k.toNat S] ∧ Kept G w w2 ∧ (∀ q, G' q → G q ∨ w.heap.size ≤ q)) := Lib.hid (fun w' hb2 => (put_any gp G 1 L.length [L] 0 k S w' (pg_up hg hb2) (by omega) (by omega) (by omega) (by omega) hfz.1 hfz.2).mono (fun e w2 ⟨e1, G', h1, h2, h3⟩ => ⟨⟨_, e1⟩, G', by rw [← set_one L k0 hx.1 S]; exact h1, (Kept.of_below hb2).trans h2 (fun q hq h => h), fun q hq => (h3 q hq).elim .inl (fun h => .inr (Nat.le_trans hb2.size h))⟩))
  have HT : Hid (∀ w' G', PG w' gp G' 1 L.length [L.set k.toNat S] → Kept G w w' → (∀ k, G' k → G k ∨ w.heap.size ≤ k) → ∃ F', EX w' ⟨b, 0, none⟩ F' c l (L.set k.toNat S) ∧ Kept (fun k => k = b ∨ G k) w w' ∧ (∀ q, F' q → (q = b ∨ G q) ∨ w.heap.size ≤ q)) := Lib.hid (fun w' G' h1 h2 h3 => ex_turn hr hok hl0 hl1 hlk hn1 hn8 hb hGb (List.length_set ..) h1 h2 h3)
  have HX := Lib.hid hfz
  clear hb hg hz hx hfz hS
  go_enter Try.func113, Try.ntmps113
  go_wp2_with (go_at_call 114; (with_reducible refine (CS.out).mono ?_); rintro e w1 ⟨rfl, hb9⟩; have HB1 := Lib.hid hb9; have x0 := cell_up c0w hb9; clear hb9)
  go_wp2_with (go_at_call 90; (with_reducible refine (PT.out _ HB1.out).mono ?_); rintro e w6 ⟨⟨bb, rfl⟩, G6, hp6, hk6, hf6⟩; have HP6 := Lib.hid hp6; have HK6 := Lib.hid hk6; have HF6 := Lib.hid hf6; clear hp6 hk6 hf6)
  go_ret
  exact ⟨rfl, HT.out _ _ HP6.out HK6.out HF6.out⟩
theorem eupd_any (p : Addr) (F : Nat → Prop) (c : Cfg) (l : Int) (L : List Int) (k d : Int) (w : World) (h : EX w p F c l L) (k0 : 0 ≤ k) (k1 : k ≤ 18446744073709551615) (d0 : -9223372036854775808 ≤ d) (d1 : d ≤ 9223372036854775807) :
    Calls Try.prog 113 #[.pointer (some p), .int .u64 k, .int .i64 d] w fun e w' => e = .returned (.int .i64 (exCode c.md L k d)) ∧ ∃ F', EX w' p F' c l (exRes c.md L k d) ∧ Kept F w w' ∧ (∀ q, F' q → F q ∨ w.heap.size ≤ q) := by
  by_cases hz : exCode c.md L k d = 0
  · rw [hz]
    exact eupd_yes p F c l L k d w h k0 k1 d0 d1 hz
  · rw [show exRes c.md L k d = L from if_neg hz]
    exact (eupd_no p F c l L k d w h k0 k1 d0 d1 hz).mono (fun e w' h2 => ⟨h2.1, F, h.up h2.2, Kept.of_below h2.2, fun q hq => .inl hq⟩)
set_option maxRecDepth 100000 in
set_option maxHeartbeats 4000000 in
theorem ealike_nil (p : Addr) (F : Nat → Prop) (c : Cfg) (l : Int) (L : List Int) (w : World) (h : EX w p F c l L) :
    Calls Try.prog 47 #[.pointer (some p), .pointer none] w fun e w' => e = .returned (.bool false) ∧ Below w.heap.size w w' := by
  obtain ⟨hr, hok, hl0, hl1, hlk, hn1, hn8, b, gp, G, rfl, hb, hg, hGb, rfl⟩ := h
  have c1 := grd_cell hb 1 (v := .int .i64 c.bt) rfl
  have c2 := grd_cell hb 2 (v := .int .i64 c.rw) rfl
  have c3 := grd_cell hb 3 (v := .int .i64 c.wd) rfl
  have c4 := grd_cell hb 4 (v := .int .i64 c.md) rfl
  have c5 := grd_cell hb 5 (v := .int .u64 c.sd) rfl
  have c6 := grd_cell hb 6 (v := .int .i64 l) rfl
  clear hb hg
  go_enter Try.func47, Try.ntmps47
  go_wp2
  go_quiet (fail)
  all_goals go_wp2
  all_goals go_ret
  all_goals exact ⟨rfl, (by repeat' (first | (with_reducible exact Below.refl _ _) | (with_reducible assumption) | (with_reducible refine below_over ?_ _ _) | (with_reducible refine Lw.below_alloc ?_ _) | (with_reducible refine Below.drew ?_) | (with_reducible refine below_drewN ?_ _) | (with_reducible refine Below.setCell ?_ ?_ _) | go_size))⟩
set_option maxRecDepth 100000 in
set_option maxHeartbeats 4000000 in
theorem ealike_yes (p : Addr) (F : Nat → Prop) (c : Cfg) (l : Int) (L : List Int) (q : Addr) (G : Nat → Prop) (M : List Int) (w : World) (h : EX w p F c l L) (g : EX w q G c l M) :
    Calls Try.prog 47 #[.pointer (some p), .pointer (some q)] w fun e w' => e = .returned (.bool true) ∧ Below w.heap.size w w' := by
  obtain ⟨hr, hok, hl0, hl1, hlk, hn1, hn8, b, gp, G, rfl, hb, hg, hGb, rfl⟩ := h
  obtain ⟨hr2, hok2, gl0, gl1, glk, gn1, gn8, b2, gp2, G2, rfl, hb2, hg2, hGb2, rfl⟩ := g
  have c1 := grd_cell hb 1 (v := .int .i64 c.bt) rfl
  have c2 := grd_cell hb 2 (v := .int .i64 c.rw) rfl
  have c3 := grd_cell hb 3 (v := .int .i64 c.wd) rfl
  have c4 := grd_cell hb 4 (v := .int .i64 c.md) rfl
  have c5 := grd_cell hb 5 (v := .int .u64 c.sd) rfl
  have c6 := grd_cell hb 6 (v := .int .i64 l) rfl
  have q1 := grd_cell hb2 1 (v := .int .i64 c.bt) rfl
  have q2 := grd_cell hb2 2 (v := .int .i64 c.rw) rfl
  have q3 := grd_cell hb2 3 (v := .int .i64 c.wd) rfl
  have q4 := grd_cell hb2 4 (v := .int .i64 c.md) rfl
  have q5 := grd_cell hb2 5 (v := .int .u64 c.sd) rfl
  have q6 := grd_cell hb2 6 (v := .int .i64 l) rfl
  clear hb hg hb2 hg2
  go_enter Try.func47, Try.ntmps47
  go_wp2
  go_quiet (fail)
  all_goals go_wp2
  all_goals go_ret
  all_goals exact ⟨rfl, (by repeat' (first | (with_reducible exact Below.refl _ _) | (with_reducible assumption) | (with_reducible refine below_over ?_ _ _) | (with_reducible refine Lw.below_alloc ?_ _) | (with_reducible refine Below.drew ?_) | (with_reducible refine below_drewN ?_ _) | (with_reducible refine Below.setCell ?_ ?_ _) | go_size))⟩
set_option maxRecDepth 100000 in
set_option maxHeartbeats 4000000 in
theorem ealike_n0 (p : Addr) (F : Nat → Prop) (c : Cfg) (l : Int) (L : List Int) (q : Addr) (G : Nat → Prop) (c' : Cfg) (l' : Int) (M : List Int) (w : World) (h : EX w p F c l L) (g : EX w q G c' l' M)  (e0 : (c'.bt == c.bt) = false) :
    Calls Try.prog 47 #[.pointer (some p), .pointer (some q)] w fun e w' => e = .returned (.bool false) ∧ Below w.heap.size w w' := by
  obtain ⟨hr, hok, hl0, hl1, hlk, hn1, hn8, b, gp, G, rfl, hb, hg, hGb, rfl⟩ := h
  obtain ⟨hr2, hok2, gl0, gl1, glk, gn1, gn8, b2, gp2, G2, rfl, hb2, hg2, hGb2, rfl⟩ := g
  have c1 := grd_cell hb 1 (v := .int .i64 c.bt) rfl
  have c2 := grd_cell hb 2 (v := .int .i64 c.rw) rfl
  have c3 := grd_cell hb 3 (v := .int .i64 c.wd) rfl
  have c4 := grd_cell hb 4 (v := .int .i64 c.md) rfl
  have c5 := grd_cell hb 5 (v := .int .u64 c.sd) rfl
  have c6 := grd_cell hb 6 (v := .int .i64 l) rfl
  have q1 := grd_cell hb2 1 (v := .int .i64 c'.bt) rfl
  have q2 := grd_cell hb2 2 (v := .int .i64 c'.rw) rfl
  have q3 := grd_cell hb2 3 (v := .int .i64 c'.wd) rfl
  have q4 := grd_cell hb2 4 (v := .int .i64 c'.md) rfl
  have q5 := grd_cell hb2 5 (v := .int .u64 c'.sd) rfl
  have q6 := grd_cell hb2 6 (v := .int .i64 l') rfl
  clear hb hg hb2 hg2 hlk glk hn8 gn8 hn1 gn1
  go_enter Try.func47, Try.ntmps47
  go_wp2
  go_quiet (fail)
  all_goals go_wp2
  all_goals go_ret
  all_goals exact ⟨rfl, (by repeat' (first | (with_reducible exact Below.refl _ _) | (with_reducible assumption) | (with_reducible refine below_over ?_ _ _) | (with_reducible refine Lw.below_alloc ?_ _) | (with_reducible refine Below.drew ?_) | (with_reducible refine below_drewN ?_ _) | (with_reducible refine Below.setCell ?_ ?_ _) | go_size))⟩
set_option maxRecDepth 100000 in
set_option maxHeartbeats 4000000 in
theorem ealike_n1 (p : Addr) (F : Nat → Prop) (c : Cfg) (l : Int) (L : List Int) (q : Addr) (G : Nat → Prop) (c' : Cfg) (l' : Int) (M : List Int) (w : World) (h : EX w p F c l L) (g : EX w q G c' l' M) (e0 : c'.bt = c.bt) (e1 : (c'.rw == c.rw) = false) :
    Calls Try.prog 47 #[.pointer (some p), .pointer (some q)] w fun e w' => e = .returned (.bool false) ∧ Below w.heap.size w w' := by
  obtain ⟨hr, hok, hl0, hl1, hlk, hn1, hn8, b, gp, G, rfl, hb, hg, hGb, rfl⟩ := h
  obtain ⟨hr2, hok2, gl0, gl1, glk, gn1, gn8, b2, gp2, G2, rfl, hb2, hg2, hGb2, rfl⟩ := g
  have c1 := grd_cell hb 1 (v := .int .i64 c.bt) rfl
  have c2 := grd_cell hb 2 (v := .int .i64 c.rw) rfl
  have c3 := grd_cell hb 3 (v := .int .i64 c.wd) rfl
  have c4 := grd_cell hb 4 (v := .int .i64 c.md) rfl
  have c5 := grd_cell hb 5 (v := .int .u64 c.sd) rfl
  have c6 := grd_cell hb 6 (v := .int .i64 l) rfl
  have q1 := grd_cell hb2 1 (v := .int .i64 c'.bt) rfl
  have q2 := grd_cell hb2 2 (v := .int .i64 c'.rw) rfl
  have q3 := grd_cell hb2 3 (v := .int .i64 c'.wd) rfl
  have q4 := grd_cell hb2 4 (v := .int .i64 c'.md) rfl
  have q5 := grd_cell hb2 5 (v := .int .u64 c'.sd) rfl
  have q6 := grd_cell hb2 6 (v := .int .i64 l') rfl
  clear hb hg hb2 hg2 hlk glk hn8 gn8 hn1 gn1
  go_enter Try.func47, Try.ntmps47
  go_wp2
  go_quiet (fail)
  all_goals go_wp2
  all_goals go_ret
  all_goals exact ⟨rfl, (by repeat' (first | (with_reducible exact Below.refl _ _) | (with_reducible assumption) | (with_reducible refine below_over ?_ _ _) | (with_reducible refine Lw.below_alloc ?_ _) | (with_reducible refine Below.drew ?_) | (with_reducible refine below_drewN ?_ _) | (with_reducible refine Below.setCell ?_ ?_ _) | go_size))⟩
set_option maxRecDepth 100000 in
set_option maxHeartbeats 4000000 in
theorem ealike_n2 (p : Addr) (F : Nat → Prop) (c : Cfg) (l : Int) (L : List Int) (q : Addr) (G : Nat → Prop) (c' : Cfg) (l' : Int) (M : List Int) (w : World) (h : EX w p F c l L) (g : EX w q G c' l' M) (e0 : c'.bt = c.bt) (e1 : c'.rw = c.rw) (e2 : (c'.wd == c.wd) = false) :
    Calls Try.prog 47 #[.pointer (some p), .pointer (some q)] w fun e w' => e = .returned (.bool false) ∧ Below w.heap.size w w' := by
  obtain ⟨hr, hok, hl0, hl1, hlk, hn1, hn8, b, gp, G, rfl, hb, hg, hGb, rfl⟩ := h
  obtain ⟨hr2, hok2, gl0, gl1, glk, gn1, gn8, b2, gp2, G2, rfl, hb2, hg2, hGb2, rfl⟩ := g
  have c1 := grd_cell hb 1 (v := .int .i64 c.bt) rfl
  have c2 := grd_cell hb 2 (v := .int .i64 c.rw) rfl
  have c3 := grd_cell hb 3 (v := .int .i64 c.wd) rfl
  have c4 := grd_cell hb 4 (v := .int .i64 c.md) rfl
  have c5 := grd_cell hb 5 (v := .int .u64 c.sd) rfl
  have c6 := grd_cell hb 6 (v := .int .i64 l) rfl
  have q1 := grd_cell hb2 1 (v := .int .i64 c'.bt) rfl
  have q2 := grd_cell hb2 2 (v := .int .i64 c'.rw) rfl
  have q3 := grd_cell hb2 3 (v := .int .i64 c'.wd) rfl
  have q4 := grd_cell hb2 4 (v := .int .i64 c'.md) rfl
  have q5 := grd_cell hb2 5 (v := .int .u64 c'.sd) rfl
  have q6 := grd_cell hb2 6 (v := .int .i64 l') rfl
  clear hb hg hb2 hg2 hlk glk hn8 gn8 hn1 gn1
  go_enter Try.func47, Try.ntmps47
  go_wp2
  go_quiet (fail)
  all_goals go_wp2
  all_goals go_ret
  all_goals exact ⟨rfl, (by repeat' (first | (with_reducible exact Below.refl _ _) | (with_reducible assumption) | (with_reducible refine below_over ?_ _ _) | (with_reducible refine Lw.below_alloc ?_ _) | (with_reducible refine Below.drew ?_) | (with_reducible refine below_drewN ?_ _) | (with_reducible refine Below.setCell ?_ ?_ _) | go_size))⟩
set_option maxRecDepth 100000 in
set_option maxHeartbeats 4000000 in
theorem ealike_n3 (p : Addr) (F : Nat → Prop) (c : Cfg) (l : Int) (L : List Int) (q : Addr) (G : Nat → Prop) (c' : Cfg) (l' : Int) (M : List Int) (w : World) (h : EX w p F c l L) (g : EX w q G c' l' M) (e0 : c'.bt = c.bt) (e1 : c'.rw = c.rw) (e2 : c'.wd = c.wd) (e3 : (c'.md == c.md) = false) :
    Calls Try.prog 47 #[.pointer (some p), .pointer (some q)] w fun e w' => e = .returned (.bool false) ∧ Below w.heap.size w w' := by
  obtain ⟨hr, hok, hl0, hl1, hlk, hn1, hn8, b, gp, G, rfl, hb, hg, hGb, rfl⟩ := h
  obtain ⟨hr2, hok2, gl0, gl1, glk, gn1, gn8, b2, gp2, G2, rfl, hb2, hg2, hGb2, rfl⟩ := g
  have c1 := grd_cell hb 1 (v := .int .i64 c.bt) rfl
  have c2 := grd_cell hb 2 (v := .int .i64 c.rw) rfl
  have c3 := grd_cell hb 3 (v := .int .i64 c.wd) rfl
  have c4 := grd_cell hb 4 (v := .int .i64 c.md) rfl
  have c5 := grd_cell hb 5 (v := .int .u64 c.sd) rfl
  have c6 := grd_cell hb 6 (v := .int .i64 l) rfl
  have q1 := grd_cell hb2 1 (v := .int .i64 c'.bt) rfl
  have q2 := grd_cell hb2 2 (v := .int .i64 c'.rw) rfl
  have q3 := grd_cell hb2 3 (v := .int .i64 c'.wd) rfl
  have q4 := grd_cell hb2 4 (v := .int .i64 c'.md) rfl
  have q5 := grd_cell hb2 5 (v := .int .u64 c'.sd) rfl
  have q6 := grd_cell hb2 6 (v := .int .i64 l') rfl
  clear hb hg hb2 hg2 hlk glk hn8 gn8 hn1 gn1
  go_enter Try.func47, Try.ntmps47
  go_wp2
  go_quiet (fail)
  all_goals go_wp2
  all_goals go_ret
  all_goals exact ⟨rfl, (by repeat' (first | (with_reducible exact Below.refl _ _) | (with_reducible assumption) | (with_reducible refine below_over ?_ _ _) | (with_reducible refine Lw.below_alloc ?_ _) | (with_reducible refine Below.drew ?_) | (with_reducible refine below_drewN ?_ _) | (with_reducible refine Below.setCell ?_ ?_ _) | go_size))⟩
set_option maxRecDepth 100000 in
set_option maxHeartbeats 4000000 in
theorem ealike_n4 (p : Addr) (F : Nat → Prop) (c : Cfg) (l : Int) (L : List Int) (q : Addr) (G : Nat → Prop) (c' : Cfg) (l' : Int) (M : List Int) (w : World) (h : EX w p F c l L) (g : EX w q G c' l' M) (e0 : c'.bt = c.bt) (e1 : c'.rw = c.rw) (e2 : c'.wd = c.wd) (e3 : c'.md = c.md) (e4 : (c'.sd == c.sd) = false) :
    Calls Try.prog 47 #[.pointer (some p), .pointer (some q)] w fun e w' => e = .returned (.bool false) ∧ Below w.heap.size w w' := by
  obtain ⟨hr, hok, hl0, hl1, hlk, hn1, hn8, b, gp, G, rfl, hb, hg, hGb, rfl⟩ := h
  obtain ⟨hr2, hok2, gl0, gl1, glk, gn1, gn8, b2, gp2, G2, rfl, hb2, hg2, hGb2, rfl⟩ := g
  have c1 := grd_cell hb 1 (v := .int .i64 c.bt) rfl
  have c2 := grd_cell hb 2 (v := .int .i64 c.rw) rfl
  have c3 := grd_cell hb 3 (v := .int .i64 c.wd) rfl
  have c4 := grd_cell hb 4 (v := .int .i64 c.md) rfl
  have c5 := grd_cell hb 5 (v := .int .u64 c.sd) rfl
  have c6 := grd_cell hb 6 (v := .int .i64 l) rfl
  have q1 := grd_cell hb2 1 (v := .int .i64 c'.bt) rfl
  have q2 := grd_cell hb2 2 (v := .int .i64 c'.rw) rfl
  have q3 := grd_cell hb2 3 (v := .int .i64 c'.wd) rfl
  have q4 := grd_cell hb2 4 (v := .int .i64 c'.md) rfl
  have q5 := grd_cell hb2 5 (v := .int .u64 c'.sd) rfl
  have q6 := grd_cell hb2 6 (v := .int .i64 l') rfl
  clear hb hg hb2 hg2 hlk glk hn8 gn8 hn1 gn1
  go_enter Try.func47, Try.ntmps47
  go_wp2
  go_quiet (fail)
  all_goals go_wp2
  all_goals go_ret
  all_goals exact ⟨rfl, (by repeat' (first | (with_reducible exact Below.refl _ _) | (with_reducible assumption) | (with_reducible refine below_over ?_ _ _) | (with_reducible refine Lw.below_alloc ?_ _) | (with_reducible refine Below.drew ?_) | (with_reducible refine below_drewN ?_ _) | (with_reducible refine Below.setCell ?_ ?_ _) | go_size))⟩
set_option maxRecDepth 100000 in
set_option maxHeartbeats 4000000 in
theorem ealike_n5 (p : Addr) (F : Nat → Prop) (c : Cfg) (l : Int) (L : List Int) (q : Addr) (G : Nat → Prop) (c' : Cfg) (l' : Int) (M : List Int) (w : World) (h : EX w p F c l L) (g : EX w q G c' l' M) (e0 : c'.bt = c.bt) (e1 : c'.rw = c.rw) (e2 : c'.wd = c.wd) (e3 : c'.md = c.md) (e4 : c'.sd = c.sd) (e5 : (l' == l) = false) :
    Calls Try.prog 47 #[.pointer (some p), .pointer (some q)] w fun e w' => e = .returned (.bool false) ∧ Below w.heap.size w w' := by
  obtain ⟨hr, hok, hl0, hl1, hlk, hn1, hn8, b, gp, G, rfl, hb, hg, hGb, rfl⟩ := h
  obtain ⟨hr2, hok2, gl0, gl1, glk, gn1, gn8, b2, gp2, G2, rfl, hb2, hg2, hGb2, rfl⟩ := g
  have c1 := grd_cell hb 1 (v := .int .i64 c.bt) rfl
  have c2 := grd_cell hb 2 (v := .int .i64 c.rw) rfl
  have c3 := grd_cell hb 3 (v := .int .i64 c.wd) rfl
  have c4 := grd_cell hb 4 (v := .int .i64 c.md) rfl
  have c5 := grd_cell hb 5 (v := .int .u64 c.sd) rfl
  have c6 := grd_cell hb 6 (v := .int .i64 l) rfl
  have q1 := grd_cell hb2 1 (v := .int .i64 c'.bt) rfl
  have q2 := grd_cell hb2 2 (v := .int .i64 c'.rw) rfl
  have q3 := grd_cell hb2 3 (v := .int .i64 c'.wd) rfl
  have q4 := grd_cell hb2 4 (v := .int .i64 c'.md) rfl
  have q5 := grd_cell hb2 5 (v := .int .u64 c'.sd) rfl
  have q6 := grd_cell hb2 6 (v := .int .i64 l') rfl
  clear hb hg hb2 hg2 hlk glk hn8 gn8 hn1 gn1
  go_enter Try.func47, Try.ntmps47
  go_wp2
  go_quiet (fail)
  all_goals go_wp2
  all_goals go_ret
  all_goals exact ⟨rfl, (by repeat' (first | (with_reducible exact Below.refl _ _) | (with_reducible assumption) | (with_reducible refine below_over ?_ _ _) | (with_reducible refine Lw.below_alloc ?_ _) | (with_reducible refine Below.drew ?_) | (with_reducible refine below_drewN ?_ _) | (with_reducible refine Below.setCell ?_ ?_ _) | go_size))⟩
theorem ealike_any (p : Addr) (F : Nat → Prop) (c : Cfg) (l : Int) (L : List Int) (q : Addr) (G : Nat → Prop) (c' : Cfg) (l' : Int) (M : List Int) (w : World) (h : EX w p F c l L) (g : EX w q G c' l' M) :
    Calls Try.prog 47 #[.pointer (some p), .pointer (some q)] w fun e w' => e = .returned (.bool (decide (cfgE c c' = true ∧ l = l'))) ∧ Below w.heap.size w w' := by
  have no : ¬ (c.bt = c'.bt ∧ c.rw = c'.rw ∧ c.wd = c'.wd ∧ c.md = c'.md ∧ c.sd = c'.sd ∧ l = l') → decide (cfgE c c' = true ∧ l = l') = false := by
    intro hn
    refine decide_eq_false ?_
    rintro ⟨h1, h2⟩
    have h3 := of_decide_eq_true h1
    exact hn ⟨h3.1, h3.2.1, h3.2.2.1, h3.2.2.2.1, h3.2.2.2.2, h2⟩
  have bf : ∀ {a b : Int}, ¬ a = b → (a == b) = false := fun h => by simp [h]
  by_cases e0 : c'.bt = c.bt
  · by_cases e1 : c'.rw = c.rw
    · by_cases e2 : c'.wd = c.wd
      · by_cases e3 : c'.md = c.md
        · by_cases e4 : c'.sd = c.sd
          · by_cases e5 : l' = l
            · have e : c' = c := by cases c; cases c'; simp_all
              subst e e5
              have he : decide (cfgE c' c' = true ∧ l' = l') = true := by unfold cfgE; simp
              rw [he]
              exact ealike_yes p F c' l' L q G M w h g
            · rw [no (fun h => e5 h.2.2.2.2.2.symm)]
              exact ealike_n5 p F c l L q G c' l' M w h g e0 e1 e2 e3 e4 (bf e5)
          · rw [no (fun h => e4 h.2.2.2.2.1.symm)]
            exact ealike_n4 p F c l L q G c' l' M w h g e0 e1 e2 e3 (bf e4)
        · rw [no (fun h => e3 h.2.2.2.1.symm)]
          exact ealike_n3 p F c l L q G c' l' M w h g e0 e1 e2 (bf e3)
      · rw [no (fun h => e2 h.2.2.1.symm)]
        exact ealike_n2 p F c l L q G c' l' M w h g e0 e1 (bf e2)
    · rw [no (fun h => e1 h.2.1.symm)]
      exact ealike_n1 p F c l L q G c' l' M w h g e0 (bf e1)
  · rw [no (fun h => e0 h.1.symm)]
    exact ealike_n0 p F c l L q G c' l' M w h g (bf e0)
theorem ex_apart {w : World} {gp : Addr} {G : Nat → Prop} {m n : Nat} {L : List (List Int)} (h : PG w gp G m n L) (hmn : 0 < m * n) {b : Nat} {x : Addr} {vs : List Value} (hv : 3 ≤ vs.length) (hb : w.heap[b]? = some (.cells (Value.pointer (some x) :: vs).toArray 69 (0, 0))) : ¬ G b := by
  obtain ⟨hd, b1, g1, cap, rfl, h1, hm, -, -, -, rfl⟩ := h
  rintro (rfl | rfl)
  · rw [h1] at hb
    injection hb with hb
    injection hb with hb
    have := congrArg Array.size hb
    simp at this
    omega
  · obtain ⟨us, e, h2, h3⟩ := hm
    rw [h2] at hb
    injection hb with hb
    injection hb with hb
    have hl : 0 < L.flatten.length := by rw [flat_dims hd]; exact hmn
    have h4 := h3 0 _ (List.getElem?_eq_getElem hl)
    rw [hb] at h4
    simp at h4
/-- s: 1 for Merge, -1 for Subtract. -/
def mgC (s : Int) (c d : Cfg) (l l' : Int) (L M : List Int) : Int :=
  if cfgE c d = true ∧ l = l' then (if s = -1 ∧ c.md = 2 then 3 else exJ s L M) else 5
def mgR (s : Int) (c d : Cfg) (l l' : Int) (L M : List Int) : List Int :=
  if cfgE c d = true ∧ l = l' then (if s = -1 ∧ c.md = 2 then L else exM s L M) else L
set_option maxRecDepth 100000 in
set_option maxHeartbeats 4000000 in
theorem ejoin_nil (p : Addr) (F : Nat → Prop) (c : Cfg) (l : Int) (L : List Int) (B : Bool) (v : Value) (w : World) (h : EX w p F c l L) :
    Calls Try.prog 38 #[.pointer (some p), .pointer none, .bool B, v] w fun e w' => e = .returned (.int .i64 5) ∧ Below w.heap.size w w' := by
  have CA := Lib.hid (ealike_nil p F c l L w h)
  clear h
  go_enter Try.func38, Try.ntmps38
  go_wp2_with (go_at_call 47; (with_reducible refine (CA.out).mono ?_); rintro e w1 ⟨rfl, hb9⟩; have HB1 := Lib.hid hb9; clear hb9)
  go_ret
  exact ⟨rfl, HB1.out⟩
set_option maxRecDepth 100000 in
set_option maxHeartbeats 4000000 in
theorem ejoin_no (p : Addr) (F : Nat → Prop) (c : Cfg) (l : Int) (L : List Int) (B : Bool) (v : Value) (q : Addr) (G : Nat → Prop) (c' : Cfg) (l' : Int) (M : List Int) (w : World) (h : EX w p F c l L) (g : EX w q G c' l' M) (hn : ¬ (cfgE c c' = true ∧ l = l')) :
    Calls Try.prog 38 #[.pointer (some p), .pointer (some q), .bool B, v] w fun e w' => e = .returned (.int .i64 5) ∧ Below w.heap.size w w' := by
  have CA := Lib.hid (ealike_any p F c l L q G c' l' M w h g)
  rw [decide_eq_false hn] at CA
  clear h g hn
  go_enter Try.func38, Try.ntmps38
  go_wp2_with (go_at_call 47; (with_reducible refine (CA.out).mono ?_); rintro e w1 ⟨rfl, hb9⟩; have HB1 := Lib.hid hb9; clear hb9)
  go_ret
  exact ⟨rfl, HB1.out⟩
set_option maxRecDepth 100000 in
set_option maxHeartbeats 4000000 in
theorem ejoin_mode (p : Addr) (F : Nat → Prop) (c : Cfg) (l : Int) (L : List Int) (v : Value) (q : Addr) (G : Nat → Prop) (M : List Int) (w : World) (h : EX w p F c l L) (g : EX w q G c l M) :
    Calls Try.prog 38 #[.pointer (some p), .pointer (some q), .bool false, v] w fun e w' => e = .returned (.int .i64 3) ∧ Below w.heap.size w w' := by
  have CA := Lib.hid (ealike_yes p F c l L q G M w h g)
  clear h g
  go_enter Try.func38, Try.ntmps38
  go_wp2_with (go_at_call 47; (with_reducible refine (CA.out).mono ?_); rintro e w1 ⟨rfl, hb9⟩; have HB1 := Lib.hid hb9; clear hb9)
  go_ret
  exact ⟨rfl, HB1.out⟩
set_option maxRecDepth 100000 in
set_option maxHeartbeats 4000000 in
theorem ejoin_plus (p : Addr) (F : Nat → Prop) (c : Cfg) (l : Int) (L : List Int) (q : Addr) (G' : Nat → Prop) (M : List Int) (w : World) (h : EX w p F c l L) (g : EX w q G' c l M) :
    Calls Try.prog 38 #[.pointer (some p), .pointer (some q), .bool true, .func (.func 37) #[] #[]] w fun e w' => e = .returned (.int .i64 (exJ (1) L M)) ∧ ∃ F', EX w' p F' c l (exM (1) L M) ∧ Kept F w w' ∧ (∀ k, F' k → F k ∨ w.heap.size ≤ k) := by
  have CA := Lib.hid (ealike_yes p F c l L q G' M w h g)
  obtain ⟨hr, hok, hl0, hl1, hlk, hn1, hn8, b, gp, G, rfl, hb, hg, hGb, rfl⟩ := h
  obtain ⟨hr2, hok2, gl0, gl1, glk, gn1, gn8, b2, gp2, G2, rfl, hb2, hg2, hGb2, rfl⟩ := g
  have hML : M.length = L.length := by omega
  have hbl := size_of_heap hb
  have hbl2 := size_of_heap hb2
  have c0w := grd_cell hb 0 (v := .pointer (some gp)) rfl
  have c1w := grd_cell hb2 0 (v := .pointer (some gp2)) rfl
  have hap : ¬ G b2 := ex_apart hg (by omega) (vs := [_, _, _, _, _, _]) (by simp) hb2
  have TL : Hid (∀ w', Below w.heap.size w w' → Calls Try.prog 37 #[.pointer (some gp), .pointer (some gp2)] w' fun e w2 => e = .returned (.int .i64 (exJ (1) L M)) ∧ ∃ G6, PG w2 gp G6 1 L.length [exM (1) L M] ∧ Kept G w w2 ∧ (∀ q, G6 q → G q ∨ w.heap.size ≤ q)) := Lib.hid (fun w' hb2 => (plus_all gp gp2 G G2 _ _ _ _ [L] [M] w' (pg_up hg hb2) (pg_up hg2 hb2)).mono (fun e w2 ⟨e1, G', h1, h2, h3⟩ => ⟨by rw [hML, (join_one (1) L.length L M).1] at e1; exact e1, G', by rw [hML, (join_one (1) L.length L M).2] at h1; exact h1, (Kept.of_below hb2).trans h2 (fun q hq h => h), fun q hq => (h3 q hq).elim .inl (fun h => .inr (Nat.le_trans hb2.size h))⟩))
  have HT : Hid (∀ w' G', PG w' gp G' 1 L.length [exM (1) L M] → Kept G w w' → (∀ k, G' k → G k ∨ w.heap.size ≤ k) → ∃ F', EX w' ⟨b, 0, none⟩ F' c l (exM (1) L M) ∧ Kept (fun k => k = b ∨ G k) w w' ∧ (∀ q, F' q → (q = b ∨ G q) ∨ w.heap.size ≤ q)) := Lib.hid (fun w' G' h1 h2 h3 => ex_turn hr hok hl0 hl1 hlk hn1 hn8 hb hGb (exM_len hML) h1 h2 h3)
  obtain ⟨V, hV⟩ : ∃ V, exJ (1) L M = V := ⟨_, rfl⟩
  obtain ⟨R, hR⟩ : ∃ R, exM (1) L M = R := ⟨_, rfl⟩
  rw [hV, hR] at TL
  rw [hR] at HT
  rw [hV, hR]
  clear hb hg hb2 hg2 hV hR hlk glk hML hn1 hn8 gn1 gn8
  go_enter Try.func38, Try.ntmps38
  go_wp2_with (go_at_call 47; (with_reducible refine (CA.out).mono ?_); rintro e w1 ⟨rfl, hb9⟩; have HB1 := Lib.hid hb9; clear hb9)
  have c0 := cell_up c0w HB1.out
  have c1 := cell_up c1w HB1.out
  have TL1 : Hid (∀ w', Below w1.heap.size w1 w' → _) := Lib.hid (fun w' hb2 => TL.out w' (below_call HB1.out hb2 (Nat.le_refl _)))
  go_region_held3 (fun w' => w'.cell? ⟨b, 0, none⟩ = some (.pointer (some gp)) ∧ w'.cell? ⟨b2, 0, none⟩ = some (.pointer (some gp2))) (first | (refine ⟨?_, ?_⟩ <;> (first | (with_reducible assumption) | (with_reducible refine cell_up c0 ?_) | (with_reducible refine cell_up c1 ?_)) <;> (repeat' (first | (with_reducible exact Below.refl _ _) | (with_reducible assumption) | (with_reducible refine below_over ?_ _ _) | (with_reducible refine Lw.below_alloc ?_ _) | (with_reducible refine Below.drew ?_) | (with_reducible refine below_drewN ?_ _) | (with_reducible refine Below.setCell ?_ ?_ _) | go_size)))) (first
    | (go_at_call 37; (with_reducible refine (TL1.out _ (by repeat' (first | (with_reducible exact Below.refl _ _) | (with_reducible assumption) | (with_reducible refine below_over ?_ _ _) | (with_reducible refine Lw.below_alloc ?_ _) | (with_reducible refine Below.drew ?_) | (with_reducible refine below_drewN ?_ _) | (with_reducible refine Below.setCell ?_ ?_ _) | go_size))).mono ?_); rintro e w6 ⟨rfl, G6, hp6, hk6, hf6⟩; have HP6 := Lib.hid hp6; have HK6 := Lib.hid hk6; have HF6 := Lib.hid hf6; have x0 : w6.cell? ⟨b, 0, none⟩ = some (.pointer (some gp)) := hk6.cell c0w hGb; have x1 : w6.cell? ⟨b2, 0, none⟩ = some (.pointer (some gp2)) := hk6.cell c1w hap; clear hp6 hk6 hf6))
  all_goals go_wp2
  all_goals go_ret
  all_goals exact ⟨rfl, HT.out _ _ HP6.out HK6.out HF6.out⟩
set_option maxRecDepth 100000 in
set_option maxHeartbeats 4000000 in
theorem emerge_nil (p : Addr) (F : Nat → Prop) (c : Cfg) (l : Int) (L : List Int) (w : World) (h : EX w p F c l L) :
    Calls Try.prog 25 #[.pointer (some p), .pointer none] w fun e w' => e = .returned (.int .i64 5) ∧ Below w.heap.size w w' := by
  have CJ := Lib.hid (ejoin_nil p F c l L true (.func (.func 37) #[] #[]) w h)
  clear h
  go_enter Try.func25, Try.ntmps25
  go_wp2_with (go_at_call 38; (with_reducible refine (CJ.out).mono ?_); rintro e w2 ⟨rfl, hb9⟩; have HB2 := Lib.hid hb9; clear hb9)
  go_ret
  exact ⟨rfl, HB2.out⟩
set_option maxRecDepth 100000 in
set_option maxHeartbeats 4000000 in
theorem emerge_no (p : Addr) (F : Nat → Prop) (c : Cfg) (l : Int) (L : List Int) (q : Addr) (G : Nat → Prop) (c' : Cfg) (l' : Int) (M : List Int) (w : World) (h : EX w p F c l L) (g : EX w q G c' l' M) (hn : ¬ (cfgE c c' = true ∧ l = l')) :
    Calls Try.prog 25 #[.pointer (some p), .pointer (some q)] w fun e w' => e = .returned (.int .i64 5) ∧ Below w.heap.size w w' := by
  have CJ := Lib.hid (ejoin_no p F c l L true (.func (.func 37) #[] #[]) q G c' l' M w h g hn)
  clear h g hn
  go_enter Try.func25, Try.ntmps25
  go_wp2_with (go_at_call 38; (with_reducible refine (CJ.out).mono ?_); rintro e w2 ⟨rfl, hb9⟩; have HB2 := Lib.hid hb9; clear hb9)
  go_ret
  exact ⟨rfl, HB2.out⟩
set_option maxRecDepth 100000 in
set_option maxHeartbeats 4000000 in
theorem emerge_yes (p : Addr) (F : Nat → Prop) (c : Cfg) (l : Int) (L : List Int) (q : Addr) (G' : Nat → Prop) (M : List Int) (w : World) (h : EX w p F c l L) (g : EX w q G' c l M) :
    Calls Try.prog 25 #[.pointer (some p), .pointer (some q)] w fun e w' => e = .returned (.int .i64 (exJ 1 L M)) ∧ ∃ F', EX w' p F' c l (exM 1 L M) ∧ Kept F w w' ∧ (∀ k, F' k → F k ∨ w.heap.size ≤ k) := by
  have CJ := Lib.hid (ejoin_plus p F c l L q G' M w h g)
  clear h g
  go_enter Try.func25, Try.ntmps25
  go_wp2_with (go_at_call 38; (with_reducible refine (CJ.out).mono ?_); rintro e w6 ⟨rfl, F6, hp6, hk6, hf6⟩; have HP6 := Lib.hid hp6; have HK6 := Lib.hid hk6; have HF6 := Lib.hid hf6; clear hp6 hk6 hf6)
  go_ret
  exact ⟨rfl, F6, HP6.out, HK6.out, HF6.out⟩
theorem emerge_any (p : Addr) (F : Nat → Prop) (c : Cfg) (l : Int) (L : List Int) (q : Addr) (G : Nat → Prop) (c' : Cfg) (l' : Int) (M : List Int) (w : World) (h : EX w p F c l L) (g : EX w q G c' l' M) :
    Calls Try.prog 25 #[.pointer (some p), .pointer (some q)] w fun e w' => e = .returned (.int .i64 (mgC 1 c c' l l' L M)) ∧ ∃ F', EX w' p F' c l (mgR 1 c c' l l' L M) ∧ Kept F w w' ∧ (∀ k, F' k → F k ∨ w.heap.size ≤ k) := by
  unfold mgC mgR
  by_cases hn : cfgE c c' = true ∧ l = l'
  · rw [if_pos hn, if_pos hn]
    have hc := of_decide_eq_true hn.1
    have e : c = c' := by cases c; cases c'; simp_all
    have e2 := hn.2
    subst e e2
    rw [if_neg (by omega), if_neg (by omega)]
    exact emerge_yes p F c l L q G M w h g
  · rw [if_neg hn, if_neg hn]
    exact (emerge_no p F c l L q G c' l' M w h g hn).mono (fun e w' h2 => ⟨h2.1, F, h.up h2.2, Kept.of_below h2.2, fun q hq => .inl hq⟩)
end Go.Proofs.Ytkannodfamnmcaa.Exa
/- The document's array: a block of its config, its level and its row. Printed by wip/gen/exaref.py. -/
namespace Go.Proofs.Ytkannodfamnmcaa.Exa
open Go Go.RowKit Lw Grd Lin Con Shp Sk
set_option linter.unusedVariables false
set_option linter.unusedSimpArgs false
theorem i64_info : (Try.prog.info? 2).map (fun i => (i.zero, i.size, i.bytes)) = some (some (.int .i64 0), 1, 8) := by kernel_rfl
theorem i64s_u : Try.prog.underlying 36 = some (.slice 2) := by kernel_rfl
end Go.Proofs.Ytkannodfamnmcaa.Exa
/- What the statements of layer 12 lean on: the level that is picked, and what must be in any case. Printed by wip/gen/exalawa.py. -/
namespace Go.Proofs.Ytkannodfamnmcaa.Exa
open Go Go.RowKit Lw Grd Lin Con Shp Sk
set_option linter.unusedVariables false
set_option linter.unusedSimpArgs false
theorem lit2 {w : World} {g : Nat} {x y : Int} (h0 : w.cell? ⟨g, 0, none⟩ = some (.int .i64 x)) (h1 : w.cell? ⟨g, 1, none⟩ = some (.int .i64 y)) : Rd .i64 w (some ⟨g, 0, none⟩) [x, y] := by
  intro j v hj
  match j, hj with
  | 0, hj => cases hj; exact ⟨_, rfl, h0⟩
  | 1, hj => cases hj; exact ⟨_, rfl, by simpa [Addr.add] using h1⟩
theorem exact_top {c : Cfg} (hr : IsRight c) : exactB c c.bt = true := by
  refine decide_eq_true ?_
  rw [keys_top hr]
  exact ⟨by omega, hr.2.2.2.2.1⟩
theorem exact_len {c : Cfg} {l : Int} (h : exactB c l = true) : 1 ≤ keys c l ∧ keys c l ≤ 128 := by
  have h1 := of_decide_eq_true h
  have h2 := (keys_pos.1 h1.1).1.2.2.2.2.2.1
  omega
def eA : Cfg := ⟨2, 1, 2, 1, 0⟩
theorem have_then {P Q : Prop} (h : P) (k : P → Q) : Q := k h
theorem eA_ok : eA.Ok := by constructor <;> decide
theorem eA_1 : exactB eA 1 = true := by decide
theorem eA_0 : exactB eA 0 = false := by decide
theorem eA_k : keys eA 1 = 2 := by decide
theorem n_yes (w : World) : Calls Try.prog 17 #[.agg #[.int .i64 2, .int .i64 1, .int .i64 2, .int .i64 1, .int .u64 0], .int .i64 1] w fun e w' => ∃ (p : Addr) (F : Nat → Prop), e = .returned (.tuple #[.pointer (some p), .int .i64 0]) ∧ EX w' p F eA 1 [0, 0] ∧ (∀ k, F k → w.heap.size ≤ k) ∧ Below w.heap.size w w' := by
  have C := enew_yes eA 1 w eA_ok (by omega) (by omega) eA_1
  rw [eA_k] at C
  exact C
theorem n_no (w : World) : Calls Try.prog 17 #[.agg #[.int .i64 2, .int .i64 1, .int .i64 2, .int .i64 1, .int .u64 0], .int .i64 0] w fun e w' => e = .returned (.tuple #[.pointer none, .int .i64 1]) ∧ Below w.heap.size w w' := enew_no eA 0 w eA_ok (by omega) (by omega) eA_0
theorem u1 : exCode eA.md [0, 0] 1 5 = 0 ∧ exRes eA.md [0, 0] 1 5 = [0, 5] := by decide
theorem u2 : exCode eA.md [0, 5] 2 5 = 2 ∧ exRes eA.md [0, 5] 2 5 = [0, 5] := by decide
theorem up_any (p : Addr) (F : Nat → Prop) (L M : List Int) (k d x : Int) (w : World) (h : EX w p F eA 1 L) (k0 : 0 ≤ k) (k1 : k ≤ 18446744073709551615) (d0 : -9223372036854775808 ≤ d) (d1 : d ≤ 9223372036854775807) (hu : exCode eA.md L k d = x ∧ exRes eA.md L k d = M) :
    Calls Try.prog 113 #[.pointer (some p), .int .u64 k, .int .i64 d] w fun e w' => e = .returned (.int .i64 x) ∧ ∃ F', EX w' p F' eA 1 M ∧ Kept F w w' ∧ (∀ q, F' q → F q ∨ w.heap.size ≤ q) := by
  have C := eupd_any p F eA 1 L k d w h k0 k1 d0 d1
  rw [hu.1, hu.2] at C
  exact C
theorem pt_any (p : Addr) (F : Nat → Prop) (w : World) (h : EX w p F eA 1 [0, 5]) : Calls Try.prog 112 #[.pointer (some p), .int .u64 1] w fun e w' => e = .returned (.tuple #[.int .i64 5, .int .i64 0]) ∧ Below w.heap.size w w' :=
  epoint_yes p F eA 1 [0, 5] 1 w h (by omega) (by omega) (by decide)
theorem c_any (p : Addr) (F : Nat → Prop) (w : World) (h : EX w p F eA 1 [0, 5]) : Calls Try.prog 33 #[.pointer (some p)] w fun e w' => e = .returned (.agg #[.int .i64 2, .int .i64 1, .int .i64 2, .int .i64 1, .int .u64 0]) ∧ Below w.heap.size w w' := econfig_any p F eA 1 [0, 5] w h
end Go.Proofs.Ytkannodfamnmcaa.Exa
/- What several laws of layer 12 share. Printed by wip/gen/exalaws.py. -/
namespace Go.Proofs.Ytkannodfamnmcaa.Exa
open Go Go.RowKit Lw Grd Lin Con Shp Sk
set_option linter.unusedVariables false
set_option linter.unusedSimpArgs false
theorem lst_int64_c : Try.prog.cellsOf 2 = 1 := by kernel_rfl
set_option maxRecDepth 100000 in
theorem open_list_int64 {H : Type} {enc : TypeId × Value → H} {W : World} {v : Value} {d : DataW H} {p : List MemPlace} {base : Nat} (hv : Value.okWide Try.prog W .any base 36 v)
    (h : DataW.Trod enc Try.prog W 0 (fun _ => true) true 36 v d p) :
    ∃ (A : Option Addr) (n cap : Nat) (zs : List Int), v = .slice A n cap ∧ (A = none → n = 0 ∧ cap = 0) ∧ n ≤ cap ∧ cap ≤ maxLen ∧ Rd .i64 W A zs ∧ zs.length = n ∧ (∀ v ∈ zs, -9223372036854775808 ≤ v ∧ v ≤ 9223372036854775807) := by
  obtain ⟨a0, len, cap, rfl⟩ := Go.WideShapes.okWide_slice Try.underlying36 hv
  obtain ⟨fuel, hf⟩ := h
  rcases Go.ChangeShapes.open_ints Try.underlying36 Try.underlying2 lst_int64_c hf with ⟨hcs, _⟩ | ⟨a, len', cap', zs, hcs, _, hl, hm, hz, _, hcell, hwz⟩
  · simp [Value.cells] at hcs
    obtain ⟨rfl, rfl, rfl⟩ := hcs
    exact ⟨none, 0, 0, [], rfl, fun _ => ⟨rfl, rfl⟩, Nat.le_refl _, by simp, rd_nil _ _ _, rfl, fun v h => by simp at h⟩
  · simp [Value.cells] at hcs
    obtain ⟨rfl, rfl, rfl⟩ := hcs
    have hz2 : zs.length = cap := by simpa using hz
    refine ⟨some a, len, cap, zs.take len, rfl, (fun h => by cases h), hl, hm, ?_, by simp; omega, ?_⟩
    · intro k v hk
      rw [List.getElem?_take] at hk
      split at hk
      · refine ⟨a, rfl, ?_⟩
        rw [hcell k (by omega)]
        simp [hk]
      · cases hk
    · intro v hv
      exact Lw.wf_i64 (hwz v (List.mem_of_mem_take hv))
theorem arr2_int_e : Try.prog.cellsOf 3 = 1 := by kernel_rfl
theorem arr2_int_k : Try.prog.underlying 3 = some (.int .i64) := by kernel_rfl
theorem arr2_int_l {α : Type} (T : Array α) (h : T.size = 2) : ∃ x0 x1 : α, T = #[x0, x1] := by
  obtain ⟨l⟩ := T
  match l, h with
  | [x0, x1], _ => exact ⟨x0, x1, rfl⟩
theorem Have.perm {w0 w : World} {ts us : List Thing} (hp : ts.Perm us) : Have w0 w ts → Have w0 w us := by
  induction hp with
  | nil => exact fun h => h
  | cons t hp ih =>
    intro h
    exact ⟨h.1, h.2.1, fun u hu => h.2.2.1 u (hp.mem_iff.2 hu), ih h.2.2.2⟩
  | swap a b l =>
    intro h
    obtain ⟨h1, h2, h3, h4, h5, h6, h7⟩ := h
    exact ⟨h4, h5, fun u hu => by
      rcases List.mem_cons.1 hu with rfl | hu
      · exact fun k hk hk2 => h3 a (by simp) k hk2 hk
      · exact h6 u hu, h1, h2, fun u hu => h3 u (by simp [hu]), h7⟩
  | trans _ _ ih1 ih2 => exact fun h => ih2 (ih1 h)
abbrev Opk := Int × Int × Int
/-- A row of ops, handed in. -/
structure OpkV (w : World) (A : Option Addr) (n c : Nat) (qs : List Opk) : Prop where
  nil : A = none → n = 0 ∧ c = 0
  nc : n ≤ c
  cm : c ≤ maxLen
  len : qs.length = n
  each : ∀ (i : Nat) q, qs[i]? = some q → ∃ a, A = some a ∧ w.cell? (a.add (i * 3)) = some (.int .i64 (q.1)) ∧ w.cell? (a.add (i * 3 + 1)) = some (.int .u64 (q.2.1)) ∧ w.cell? (a.add (i * 3 + 2)) = some (.int .i64 (q.2.2)) ∧ (-9223372036854775808 ≤ (q.1) ∧ (q.1) ≤ 9223372036854775807) ∧ (0 ≤ (q.2.1) ∧ (q.2.1) ≤ 18446744073709551615) ∧ (-9223372036854775808 ≤ (q.2.2) ∧ (q.2.2) ≤ 9223372036854775807)
theorem OpkV.at {w : World} {A : Option Addr} {n c : Nat} {qs : List Opk} (h : OpkV w A n c qs) {i : Nat} {q : Opk} (hq : qs[i]? = some q) : ∃ (a : Addr) (g o : Nat), A = some a ∧ a.add (i * 3) = ⟨g, o, none⟩ ∧ w.cell? ⟨g, o, none⟩ = some (.int .i64 q.1) ∧ w.cell? ⟨g, o + 1, none⟩ = some (.int .u64 q.2.1) ∧ w.cell? ⟨g, o + 2, none⟩ = some (.int .i64 q.2.2) ∧ (0 ≤ q.2.1 ∧ q.2.1 ≤ 18446744073709551615) ∧ (-9223372036854775808 ≤ q.2.2 ∧ q.2.2 ≤ 9223372036854775807) := by
  obtain ⟨a, e, h1, h2, h3, _, h5, h6⟩ := h.each i q hq
  rw [← add_add'] at h2 h3
  have hs : (a.add (i * 3)).spot = none := by
    unfold World.cell? at h1
    split at h1
    · split at h1
      · cases h1
      · rename_i hs; simpa using hs
    · cases h1
  obtain ⟨ad, had⟩ : ∃ ad, a.add (i * 3) = ad := ⟨_, rfl⟩
  rw [had] at h1 h2 h3 hs
  obtain ⟨g, o, sp⟩ := ad
  simp only at hs
  subst hs
  rw [Ord.add_at] at h2 h3
  exact ⟨a, g, o, e, had, h1, h2, h3, h5, h6⟩
theorem three_boxs (w : World) (e1 e2 e3 : TypeId) (v1 v2 v3 : Array Value) : Have w (((w.alloc (.cells v1 e1)).alloc (.cells v2 e2)).alloc (.cells v3 e3)) [boxT (w.heap.size + 1 + 1) e3 v3, boxT (w.heap.size + 1) e2 v2, boxT w.heap.size e1 v1] := by
  refine (two_boxs w e1 e2 v1 v2).push (boxT (w.heap.size + 1 + 1) e3 v3) (Lw.below_alloc (Below.refl _ _) _) ?_ (fun k hk => ?_)
  · have h := heap_alloc_new ((w.alloc (.cells v1 e1)).alloc (.cells v2 e2)) (.cells v3 e3)
    rw [World.size_alloc, World.size_alloc] at h
    exact h
  · rw [World.size_alloc, World.size_alloc]
    exact Nat.le_of_eq hk.symm
theorem zero_num (n : Nat) (k : Int) : num (List.replicate n 0) k = 0 := by
  unfold num
  rw [List.getElem?_replicate]
  split <;> rfl
theorem one_up {md : Int} {n : Nat} {d : Int} (hn : 1 ≤ n) (d0 : 0 ≤ d) (d1 : d ≤ 100) : exCode md (List.replicate n 0) 0 d = 0 ∧ exRes md (List.replicate n 0) 0 d = (List.replicate n 0).set 0 d := by
  have h := ex_yes (md := md) (L := List.replicate n 0) (k := 0) (d := d) (by rw [List.length_replicate]; omega) (fun h => by omega) (by rw [zero_num]; exact (Wid.fit64_yes (by omega) (by omega)).1)
  rw [zero_num, Int.zero_add] at h
  exact h
theorem one_rows (a b : Int) (m : Nat) : rowS 1 ((List.replicate (m + 1) 0).set 0 a) ((List.replicate (m + 1) 0).set 0 b) = (a + b) :: List.replicate m 0 := by
  unfold rowS
  rw [List.replicate_succ, List.set_cons_zero, List.set_cons_zero, List.zipWith_cons_cons]
  simp
theorem one_join {n : Nat} {a b : Int} (hn : 1 ≤ n) (a0 : 0 ≤ a) (a1 : a ≤ 100) (b0 : 0 ≤ b) (b1 : b ≤ 100) : exJ 1 ((List.replicate n 0).set 0 a) ((List.replicate n 0).set 0 b) = 0 ∧ num (exM 1 ((List.replicate n 0).set 0 a) ((List.replicate n 0).set 0 b)) 0 = a + b ∧ (exM 1 ((List.replicate n 0).set 0 a) ((List.replicate n 0).set 0 b)).length = n := by
  obtain ⟨m, rfl⟩ : ∃ m, n = m + 1 := ⟨n - 1, by omega⟩
  have hf : ((a + b) :: List.replicate m 0).all Wid.fit64 = true := by
    rw [List.all_eq_true]
    intro z hz
    rcases List.mem_cons.1 hz with rfl | hz
    · exact (Wid.fit64_yes (by omega) (by omega)).1
    · rw [(List.mem_replicate.1 hz).2]
      decide
  unfold exJ exM
  rw [one_rows, if_pos hf, if_pos hf]
  exact ⟨rfl, rfl, by simp⟩
theorem mid_ap4 {w0 w : World} {g : Nat} {zs : List Int} {t1 t2 t3 : Thing} {q : Addr} {G : Nat → Prop} {c : Cfg} {l : Int} {M : List Int} {ts : List Thing} (h : Have w0 w (midT g zs :: t1 :: t2 :: t3 :: exT q G c l M :: ts)) : ¬ G g := h.2.2.1 (exT q G c l M) (by simp) g rfl
def ptV (L : List Int) (k : Int) : Int := if (L.length : Int) ≤ k then 0 else num L k
def ptC (L : List Int) (k : Int) : Int := if (L.length : Int) ≤ k then 2 else 0
theorem epoint_any (p : Addr) (F : Nat → Prop) (c : Cfg) (l : Int) (L : List Int) (k : Int) (w : World) (h : EX w p F c l L) (k0 : 0 ≤ k) (k1 : k ≤ 18446744073709551615) :
    Calls Try.prog 112 #[.pointer (some p), .int .u64 k] w fun e w' => e = .returned (.tuple #[.int .i64 (ptV L k), .int .i64 (ptC L k)]) ∧ Below w.heap.size w w' := by
  unfold ptV ptC
  by_cases hk : (L.length : Int) ≤ k
  · rw [if_pos hk, if_pos hk]
    exact epoint_no p F c l L k w h k0 k1 hk
  · rw [if_neg hk, if_neg hk]
    exact epoint_yes p F c l L k w h k0 k1 (by omega)
theorem plays_perm (q r o p c x : Thing) : [q, r, o, p, c, x].Perm [r, p, q, o, c, x] :=
  ((List.perm_append_comm (l₁ := [q]) (l₂ := [r])).append_right [o, p, c, x]).trans (List.Perm.cons r ((List.perm_append_comm (l₁ := [q, o]) (l₂ := [p])).append_right [c, x]))
end Go.Proofs.Ytkannodfamnmcaa.Exa
/- The walks of package level (the code's): a level is an interface value that holds a pointer to an array or to a sketch. Printed by wip/gen/levcode.py. -/
namespace Go.Proofs.Ytkannodfamnmcaa.Lev
open Go Go.RowKit Lw Grd Lin Con Shp Sk Exa
set_option linter.unusedVariables false
set_option linter.unusedSimpArgs false
theorem ta_AA (w : World) (p : Addr) : (Instr.typeAssert (.iface 48 (.pointer (some p))) 27 48 true).run Try.prog w = .ok (.tuple #[.pointer (some p), .bool true]) w := by kernel_rfl
theorem ta_AS (w : World) (p : Addr) : (Instr.typeAssert (.iface 48 (.pointer (some p))) 27 32 true).run Try.prog w = .ok (.tuple #[.pointer none, .bool false]) w := by kernel_rfl
theorem ta_SS (w : World) (p : Addr) : (Instr.typeAssert (.iface 32 (.pointer (some p))) 27 32 true).run Try.prog w = .ok (.tuple #[.pointer (some p), .bool true]) w := by kernel_rfl
theorem ta_SA (w : World) (p : Addr) : (Instr.typeAssert (.iface 32 (.pointer (some p))) 27 48 true).run Try.prog w = .ok (.tuple #[.pointer none, .bool false]) w := by kernel_rfl
theorem ta_S1 (w : World) (p : Addr) : (Instr.typeAssert (.iface 32 (.pointer (some p))) 27 32 false).run Try.prog w = .ok (.pointer (some p)) w := by kernel_rfl
theorem ta_A1 (w : World) (p : Addr) : (Instr.typeAssert (.iface 48 (.pointer (some p))) 27 48 false).run Try.prog w = .ok (.pointer (some p)) w := by kernel_rfl
theorem ta_NA (w : World) : (Instr.typeAssert (.nilIface) 27 48 true).run Try.prog w = .ok (.tuple #[.pointer none, .bool false]) w := by kernel_rfl
theorem ta_NS (w : World) : (Instr.typeAssert (.nilIface) 27 32 true).run Try.prog w = .ok (.tuple #[.pointer none, .bool false]) w := by kernel_rfl
set_option maxRecDepth 100000 in
theorem vas_S (p : Addr) (w : World) : Calls Try.prog 7 #[.iface 32 (.pointer (some p))] w fun e w' => e = .returned (.tuple #[.pointer (some p), .bool true]) ∧ Below w.heap.size w w' := by
  have fAA := ta_AA
  have fAS := ta_AS
  have fSS := ta_SS
  have fSA := ta_SA
  have fS1 := ta_S1
  have fNA := ta_NA
  have fNS := ta_NS
  go_enter Try.func7, Try.ntmps7
  go_wp2
  go_ret2
  exact ⟨rfl, (by repeat' (first | (with_reducible exact Below.refl _ _) | (with_reducible assumption) | (with_reducible refine below_over ?_ _ _) | (with_reducible refine Lw.below_alloc ?_ _) | (with_reducible refine Below.drew ?_) | (with_reducible refine below_drewN ?_ _) | (with_reducible refine Below.setCell ?_ ?_ _) | go_size))⟩
set_option maxRecDepth 100000 in
theorem vas_A (p : Addr) (w : World) : Calls Try.prog 7 #[.iface 48 (.pointer (some p))] w fun e w' => e = .returned (.tuple #[.pointer none, .bool false]) ∧ Below w.heap.size w w' := by
  have fAA := ta_AA
  have fAS := ta_AS
  have fSS := ta_SS
  have fSA := ta_SA
  have fS1 := ta_S1
  have fNA := ta_NA
  have fNS := ta_NS
  go_enter Try.func7, Try.ntmps7
  go_wp2
  go_ret2
  exact ⟨rfl, (by repeat' (first | (with_reducible exact Below.refl _ _) | (with_reducible assumption) | (with_reducible refine below_over ?_ _ _) | (with_reducible refine Lw.below_alloc ?_ _) | (with_reducible refine Below.drew ?_) | (with_reducible refine below_drewN ?_ _) | (with_reducible refine Below.setCell ?_ ?_ _) | go_size))⟩
set_option maxRecDepth 100000 in
theorem vmust_S (p : Addr) (w : World) : Calls Try.prog 9 #[.iface 32 (.pointer (some p))] w fun e w' => e = .returned (.pointer (some p)) ∧ Below w.heap.size w w' := by
  have fAA := ta_AA
  have fAS := ta_AS
  have fSS := ta_SS
  have fSA := ta_SA
  have fS1 := ta_S1
  have fNA := ta_NA
  have fNS := ta_NS
  go_enter Try.func9, Try.ntmps9
  go_wp2
  go_ret
  exact ⟨rfl, (by repeat' (first | (with_reducible exact Below.refl _ _) | (with_reducible assumption) | (with_reducible refine below_over ?_ _ _) | (with_reducible refine Lw.below_alloc ?_ _) | (with_reducible refine Below.drew ?_) | (with_reducible refine below_drewN ?_ _) | (with_reducible refine Below.setCell ?_ ?_ _) | go_size))⟩
set_option maxRecDepth 100000 in
theorem veith_A (p : Addr) (w : World) : Calls Try.prog 20 #[.iface 48 (.pointer (some p))] w fun e w' => e = .returned (.tuple #[.pointer none, .pointer (some p)]) ∧ Below w.heap.size w w' := by
  have fAA := ta_AA
  have fAS := ta_AS
  have fSS := ta_SS
  have fSA := ta_SA
  have fS1 := ta_S1
  have fNA := ta_NA
  have fNS := ta_NS
  go_enter Try.func20, Try.ntmps20
  go_wp2
  go_ret2
  exact ⟨rfl, (by repeat' (first | (with_reducible exact Below.refl _ _) | (with_reducible assumption) | (with_reducible refine below_over ?_ _ _) | (with_reducible refine Lw.below_alloc ?_ _) | (with_reducible refine Below.drew ?_) | (with_reducible refine below_drewN ?_ _) | (with_reducible refine Below.setCell ?_ ?_ _) | go_size))⟩
set_option maxRecDepth 100000 in
theorem veith_S (p : Addr) (w : World) : Calls Try.prog 20 #[.iface 32 (.pointer (some p))] w fun e w' => e = .returned (.tuple #[.pointer (some p), .pointer none]) ∧ Below w.heap.size w w' := by
  have fAA := ta_AA
  have fAS := ta_AS
  have fSS := ta_SS
  have fSA := ta_SA
  have fS1 := ta_S1
  have fNA := ta_NA
  have fNS := ta_NS
  go_enter Try.func20, Try.ntmps20
  go_wp2
  go_ret2
  exact ⟨rfl, (by repeat' (first | (with_reducible exact Below.refl _ _) | (with_reducible assumption) | (with_reducible refine below_over ?_ _ _) | (with_reducible refine Lw.below_alloc ?_ _) | (with_reducible refine Below.drew ?_) | (with_reducible refine below_drewN ?_ _) | (with_reducible refine Below.setCell ?_ ?_ _) | go_size))⟩
set_option maxRecDepth 100000 in
theorem veith_N (w : World) : Calls Try.prog 20 #[.nilIface] w fun e w' => e = .returned (.tuple #[.pointer none, .pointer none]) ∧ Below w.heap.size w w' := by
  have fAA := ta_AA
  have fAS := ta_AS
  have fSS := ta_SS
  have fSA := ta_SA
  have fS1 := ta_S1
  have fNA := ta_NA
  have fNS := ta_NS
  go_enter Try.func20, Try.ntmps20
  go_wp2
  go_ret2
  exact ⟨rfl, (by repeat' (first | (with_reducible exact Below.refl _ _) | (with_reducible assumption) | (with_reducible refine below_over ?_ _ _) | (with_reducible refine Lw.below_alloc ?_ _) | (with_reducible refine Below.drew ?_) | (with_reducible refine below_drewN ?_ _) | (with_reducible refine Below.setCell ?_ ?_ _) | go_size))⟩
set_option maxRecDepth 100000 in
set_option maxHeartbeats 4000000 in
theorem vnew_A (c : Cfg) (l : Int) (w : World) (h : c.Ok) (l0 : -9223372036854775808 ≤ l) (l1 : l ≤ 9223372036854775807) (hx : exactB c l = true) :
    Calls Try.prog 5 #[.agg #[.int .i64 c.bt, .int .i64 c.rw, .int .i64 c.wd, .int .i64 c.md, .int .u64 c.sd], .int .i64 l] w fun e w' => ∃ (p : Addr) (F : Nat → Prop), e = .returned (.tuple #[.iface 48 (.pointer (some p)), .int .i64 0]) ∧ EX w' p F c l (List.replicate (keys c l).toNat 0) ∧ (∀ k, F k → w.heap.size ≤ k) ∧ Below w.heap.size w w' := by
  have hk : 1 ≤ keys c l := (of_decide_eq_true hx).1
  have CK := Lib.hid (fun w => keys_any c l w h l0 l1)
  have CX := Lib.hid (fun w => exact_any c l w h l0 l1)
  have hkb : (keys c l == 0) = false := by simp; omega
  rw [hx] at CX
  have CN := Lib.hid (fun w => enew_yes c l w h l0 l1 hx)
  obtain ⟨K, hK⟩ : ∃ x, keys c l = x := ⟨_, rfl⟩
  rw [hK] at CK hkb
  have HBX : Hid (Have w (w.alloc (.cells #[.int .i64 c.bt, .int .i64 c.rw, .int .i64 c.wd, .int .i64 c.md, .int .u64 c.sd] 24)) [boxT w.heap.size 24 #[.int .i64 c.bt, .int .i64 c.rw, .int .i64 c.wd, .int .i64 c.md, .int .u64 c.sd]]) := Lib.hid (box_new w _ _)
  clear hx h hk hK
  go_enter Try.func5, Try.ntmps5
  go_wp2_with (first
    | (go_at_call 15; (with_reducible refine (CK.out _).mono ?_); rintro e w1 ⟨rfl, hb9⟩; have HV1 := Lib.hid (HBX.out.up hb9); obtain ⟨x0, x1, x2, x3, x4⟩ := box5 HV1.out.i0; clear hb9)
    | (go_at_call 16; (with_reducible refine (CX.out _).mono ?_); rintro e w2 ⟨rfl, hb9⟩; clear x0 x1 x2 x3 x4; have HV2 := Lib.hid (HV1.out.up hb9); obtain ⟨x0, x1, x2, x3, x4⟩ := box5 HV2.out.i0; clear hb9)
    | (go_at_call 17; (with_reducible refine (CN.out _).mono ?_); rintro e w3 ⟨p, F, rfl, h1, h2, hb9⟩; have H1 := Lib.hid h1; have H2 : Hid (∀ k, F k → w.heap.size ≤ k) := Lib.hid (fun k hk => Nat.le_trans HV2.out.below.size (h2 k hk)); have HB2 := Lib.hid (below_call HV2.out.below hb9 (Nat.le_refl _)); clear h1 h2 hb9))
  go_ret2
  exact ⟨p, F, rfl, H1.out, H2.out, HB2.out⟩
set_option maxRecDepth 100000 in
set_option maxHeartbeats 4000000 in
theorem vnew_S (c : Cfg) (l : Int) (w : World) (h : c.Ok) (l0 : -9223372036854775808 ≤ l) (l1 : l ≤ 9223372036854775807) (hk : 1 ≤ keys c l) (hx : exactB c l = false) :
    Calls Try.prog 5 #[.agg #[.int .i64 c.bt, .int .i64 c.rw, .int .i64 c.wd, .int .i64 c.md, .int .u64 c.sd], .int .i64 l] w fun e w' => ∃ (p : Addr) (F : Nat → Prop), e = .returned (.tuple #[.iface 32 (.pointer (some p)), .int .i64 0]) ∧ SK w' p F c l (zerosL (rws c) (wds c)) ∧ (∀ k, F k → w.heap.size ≤ k) ∧ Below w.heap.size w w' := by
  have CK := Lib.hid (fun w => keys_any c l w h l0 l1)
  have CX := Lib.hid (fun w => exact_any c l w h l0 l1)
  have hkb : (keys c l == 0) = false := by simp; omega
  rw [hx] at CX
  have CN := Lib.hid (fun w => snew_yes c l w h l0 l1 hk)
  obtain ⟨K, hK⟩ : ∃ x, keys c l = x := ⟨_, rfl⟩
  rw [hK] at CK hkb
  have HBX : Hid (Have w (w.alloc (.cells #[.int .i64 c.bt, .int .i64 c.rw, .int .i64 c.wd, .int .i64 c.md, .int .u64 c.sd] 24)) [boxT w.heap.size 24 #[.int .i64 c.bt, .int .i64 c.rw, .int .i64 c.wd, .int .i64 c.md, .int .u64 c.sd]]) := Lib.hid (box_new w _ _)
  clear hx h hk hK
  go_enter Try.func5, Try.ntmps5
  go_wp2_with (first
    | (go_at_call 15; (with_reducible refine (CK.out _).mono ?_); rintro e w1 ⟨rfl, hb9⟩; have HV1 := Lib.hid (HBX.out.up hb9); obtain ⟨x0, x1, x2, x3, x4⟩ := box5 HV1.out.i0; clear hb9)
    | (go_at_call 16; (with_reducible refine (CX.out _).mono ?_); rintro e w2 ⟨rfl, hb9⟩; clear x0 x1 x2 x3 x4; have HV2 := Lib.hid (HV1.out.up hb9); obtain ⟨x0, x1, x2, x3, x4⟩ := box5 HV2.out.i0; clear hb9)
    | (go_at_call 18; (with_reducible refine (CN.out _).mono ?_); rintro e w3 ⟨p, F, rfl, h1, h2, hb9⟩; have H1 := Lib.hid h1; have H2 : Hid (∀ k, F k → w.heap.size ≤ k) := Lib.hid (fun k hk => Nat.le_trans HV2.out.below.size (h2 k hk)); have HB2 := Lib.hid (below_call HV2.out.below hb9 (Nat.le_refl _)); clear h1 h2 hb9))
  go_ret2
  exact ⟨p, F, rfl, H1.out, H2.out, HB2.out⟩
set_option maxRecDepth 100000 in
set_option maxHeartbeats 4000000 in
theorem vnew_N (c : Cfg) (l : Int) (w : World) (h : c.Ok) (l0 : -9223372036854775808 ≤ l) (l1 : l ≤ 9223372036854775807) (hk : keys c l = 0) :
    Calls Try.prog 5 #[.agg #[.int .i64 c.bt, .int .i64 c.rw, .int .i64 c.wd, .int .i64 c.md, .int .u64 c.sd], .int .i64 l] w fun e w' => e = .returned (.tuple #[.nilIface, .int .i64 1]) ∧ Below w.heap.size w w' := by
  have CK := Lib.hid (fun w => keys_any c l w h l0 l1)
  rw [hk] at CK
  have HBX : Hid (Have w (w.alloc (.cells #[.int .i64 c.bt, .int .i64 c.rw, .int .i64 c.wd, .int .i64 c.md, .int .u64 c.sd] 24)) [boxT w.heap.size 24 #[.int .i64 c.bt, .int .i64 c.rw, .int .i64 c.wd, .int .i64 c.md, .int .u64 c.sd]]) := Lib.hid (box_new w _ _)
  clear  h hk
  go_enter Try.func5, Try.ntmps5
  go_wp2_with (go_at_call 15; (with_reducible refine (CK.out _).mono ?_); rintro e w1 ⟨rfl, hb9⟩; have HV1 := Lib.hid (HBX.out.up hb9); obtain ⟨x0, x1, x2, x3, x4⟩ := box5 HV1.out.i0; clear hb9)
  go_ret2
  have hb9 := HV1.out.below
  exact ⟨rfl, (by repeat' (first | (with_reducible exact Below.refl _ _) | (with_reducible assumption) | (with_reducible refine below_over ?_ _ _) | (with_reducible refine Lw.below_alloc ?_ _) | (with_reducible refine Below.drew ?_) | (with_reducible refine below_drewN ?_ _) | (with_reducible refine Below.setCell ?_ ?_ _) | go_size))⟩
set_option maxRecDepth 100000 in
set_option maxHeartbeats 4000000 in
theorem vjoinmerge_A (p : Addr) (F : Nat → Prop) (c : Cfg) (l : Int) (L : List Int) (q : Addr) (G : Nat → Prop) (c' : Cfg) (l' : Int) (M : List Int) (w : World) (h : EX w p F c l L) (g : EX w q G c' l' M) :
    Calls Try.prog 23 #[.iface 48 (.pointer (some p)), .iface 48 (.pointer (some q)), .func (.func 24) #[] #[], .func (.func 25) #[] #[]] w fun e w' => e = .returned (.int .i64 (mgC (1) c c' l l' L M)) ∧ ∃ F', EX w' p F' c l (mgR (1) c c' l l' L M) ∧ Kept F w w' ∧ (∀ k, F' k → F k ∨ w.heap.size ≤ k) := by
  have C := Lib.hid (fun w' (hb : Below w.heap.size w w') => emerge_any p F c l L q G c' l' M w' (h.up hb) (g.up hb))
  obtain ⟨E, hE⟩ : ∃ x, mgC (1) c c' l l' L M = x := ⟨_, rfl⟩
  obtain ⟨J, hJ⟩ : ∃ x, mgR (1) c c' l l' L M = x := ⟨_, rfl⟩
  rw [hE, hJ] at C ⊢
  clear h g hE hJ
  go_enter Try.func23, Try.ntmps23
  go_wp2_with (first
    | (go_at_call_of 20 (Value.iface 48 (.pointer (some p))); (with_reducible refine (veith_A p _).mono ?_); rintro e w1 ⟨rfl, hb9⟩; obtain ⟨bs1, d1, rfl⟩ := below_grow hb9; clear hb9)
    | (go_at_call_of 20 (Value.iface 48 (.pointer (some q))); (with_reducible refine (veith_A q _).mono ?_); rintro e w1 ⟨rfl, hb9⟩; obtain ⟨bs2, d2, rfl⟩ := below_grow hb9; clear hb9)
    | (go_at_call 25; (with_reducible refine (C.out _ (by repeat' (first | (with_reducible exact Below.refl _ _) | (with_reducible assumption) | (with_reducible refine below_over ?_ _ _) | (with_reducible refine Lw.below_alloc ?_ _) | (with_reducible refine Below.drew ?_) | (with_reducible refine below_drewN ?_ _) | (with_reducible refine Below.setCell ?_ ?_ _) | go_size))).mono ?_); rintro e w2 ⟨rfl, F2, h1, h2, h3⟩; have H1 := Lib.hid h1; have H2 := Lib.hid h2; have H3 := Lib.hid h3; clear h1 h2 h3))
  go_ret
  refine ⟨rfl, F2, H1.out, ?_, ?_⟩
  · have hb9 : Below w.heap.size w (grow w (bs1 ++ bs2) d2) := (by repeat' (first | (with_reducible exact Below.refl _ _) | (with_reducible assumption) | (with_reducible refine below_over ?_ _ _) | (with_reducible refine Lw.below_alloc ?_ _) | (with_reducible refine Below.drew ?_) | (with_reducible refine below_drewN ?_ _) | (with_reducible refine Below.setCell ?_ ?_ _) | go_size))
    exact Kept.trans (Kept.of_below (F := F) hb9) H2.out (fun _ _ h => h)
  · intro k hk
    rcases H3.out k hk with h | h
    · exact .inl h
    · exact .inr (Nat.le_trans (by go_size) h)
set_option maxRecDepth 100000 in
set_option maxHeartbeats 4000000 in
theorem vmerge_A (p : Addr) (F : Nat → Prop) (c : Cfg) (l : Int) (L : List Int) (q : Addr) (G : Nat → Prop) (c' : Cfg) (l' : Int) (M : List Int) (w : World) (h : EX w p F c l L) (g : EX w q G c' l' M) :
    Calls Try.prog 14 #[.iface 48 (.pointer (some p)), .iface 48 (.pointer (some q))] w fun e w' => e = .returned (.int .i64 (mgC (1) c c' l l' L M)) ∧ ∃ F', EX w' p F' c l (mgR (1) c c' l l' L M) ∧ Kept F w w' ∧ (∀ k, F' k → F k ∨ w.heap.size ≤ k) := by
  have C := Lib.hid (vjoinmerge_A p F c l L q G c' l' M w h g)
  obtain ⟨E, hE⟩ : ∃ x, mgC (1) c c' l l' L M = x := ⟨_, rfl⟩
  obtain ⟨J, hJ⟩ : ∃ x, mgR (1) c c' l l' L M = x := ⟨_, rfl⟩
  rw [hE, hJ] at C ⊢
  clear h g hE hJ
  go_enter Try.func14, Try.ntmps14
  go_wp2_with (go_at_call 23; (with_reducible refine (C.out).mono ?_); rintro e w2 ⟨rfl, F2, h1, h2, h3⟩; have H1 := Lib.hid h1; have H2 := Lib.hid h2; have H3 := Lib.hid h3; clear h1 h2 h3)
  go_ret
  exact ⟨rfl, F2, H1.out, H2.out, H3.out⟩
set_option maxRecDepth 100000 in
set_option maxHeartbeats 4000000 in
theorem vjoinmerge_S (p : Addr) (F : Nat → Prop) (c : Cfg) (l : Int) (L : List (List Int)) (q : Addr) (G : Nat → Prop) (c' : Cfg) (l' : Int) (M : List (List Int)) (w : World) (h : SK w p F c l L) (g : SK w q G c' l' M) :
    Calls Try.prog 23 #[.iface 32 (.pointer (some p)), .iface 32 (.pointer (some q)), .func (.func 24) #[] #[], .func (.func 25) #[] #[]] w fun e w' => e = .returned (.int .i64 (mgCode (1) c c' l l' L M)) ∧ ∃ F', SK w' p F' c l (mgRes (1) c c' l l' L M) ∧ Kept F w w' ∧ (∀ k, F' k → F k ∨ w.heap.size ≤ k) := by
  have C := Lib.hid (fun w' (hb : Below w.heap.size w w') => smerge_any p F c l L q G c' l' M w' (h.up hb) (g.up hb))
  obtain ⟨E, hE⟩ : ∃ x, mgCode (1) c c' l l' L M = x := ⟨_, rfl⟩
  obtain ⟨J, hJ⟩ : ∃ x, mgRes (1) c c' l l' L M = x := ⟨_, rfl⟩
  rw [hE, hJ] at C ⊢
  clear h g hE hJ
  go_enter Try.func23, Try.ntmps23
  go_wp2_with (first
    | (go_at_call_of 20 (Value.iface 32 (.pointer (some p))); (with_reducible refine (veith_S p _).mono ?_); rintro e w1 ⟨rfl, hb9⟩; obtain ⟨bs1, d1, rfl⟩ := below_grow hb9; clear hb9)
    | (go_at_call_of 20 (Value.iface 32 (.pointer (some q))); (with_reducible refine (veith_S q _).mono ?_); rintro e w1 ⟨rfl, hb9⟩; obtain ⟨bs2, d2, rfl⟩ := below_grow hb9; clear hb9)
    | (go_at_call 24; (with_reducible refine (C.out _ (by repeat' (first | (with_reducible exact Below.refl _ _) | (with_reducible assumption) | (with_reducible refine below_over ?_ _ _) | (with_reducible refine Lw.below_alloc ?_ _) | (with_reducible refine Below.drew ?_) | (with_reducible refine below_drewN ?_ _) | (with_reducible refine Below.setCell ?_ ?_ _) | go_size))).mono ?_); rintro e w2 ⟨rfl, F2, h1, h2, h3⟩; have H1 := Lib.hid h1; have H2 := Lib.hid h2; have H3 := Lib.hid h3; clear h1 h2 h3))
  go_ret
  refine ⟨rfl, F2, H1.out, ?_, ?_⟩
  · have hb9 : Below w.heap.size w (grow w (bs1 ++ bs2) d2) := (by repeat' (first | (with_reducible exact Below.refl _ _) | (with_reducible assumption) | (with_reducible refine below_over ?_ _ _) | (with_reducible refine Lw.below_alloc ?_ _) | (with_reducible refine Below.drew ?_) | (with_reducible refine below_drewN ?_ _) | (with_reducible refine Below.setCell ?_ ?_ _) | go_size))
    exact Kept.trans (Kept.of_below (F := F) hb9) H2.out (fun _ _ h => h)
  · intro k hk
    rcases H3.out k hk with h | h
    · exact .inl h
    · exact .inr (Nat.le_trans (by go_size) h)
set_option maxRecDepth 100000 in
set_option maxHeartbeats 4000000 in
theorem vmerge_S (p : Addr) (F : Nat → Prop) (c : Cfg) (l : Int) (L : List (List Int)) (q : Addr) (G : Nat → Prop) (c' : Cfg) (l' : Int) (M : List (List Int)) (w : World) (h : SK w p F c l L) (g : SK w q G c' l' M) :
    Calls Try.prog 14 #[.iface 32 (.pointer (some p)), .iface 32 (.pointer (some q))] w fun e w' => e = .returned (.int .i64 (mgCode (1) c c' l l' L M)) ∧ ∃ F', SK w' p F' c l (mgRes (1) c c' l l' L M) ∧ Kept F w w' ∧ (∀ k, F' k → F k ∨ w.heap.size ≤ k) := by
  have C := Lib.hid (vjoinmerge_S p F c l L q G c' l' M w h g)
  obtain ⟨E, hE⟩ : ∃ x, mgCode (1) c c' l l' L M = x := ⟨_, rfl⟩
  obtain ⟨J, hJ⟩ : ∃ x, mgRes (1) c c' l l' L M = x := ⟨_, rfl⟩
  rw [hE, hJ] at C ⊢
  clear h g hE hJ
  go_enter Try.func14, Try.ntmps14
  go_wp2_with (go_at_call 23; (with_reducible refine (C.out).mono ?_); rintro e w2 ⟨rfl, F2, h1, h2, h3⟩; have H1 := Lib.hid h1; have H2 := Lib.hid h2; have H3 := Lib.hid h3; clear h1 h2 h3)
  go_ret
  exact ⟨rfl, F2, H1.out, H2.out, H3.out⟩
set_option maxRecDepth 100000 in
set_option maxHeartbeats 4000000 in
theorem vjoinmerge_AS (p q : Addr) (w : World) : Calls Try.prog 23 #[.iface 48 (.pointer (some p)), .iface 32 (.pointer (some q)), .func (.func 24) #[] #[], .func (.func 25) #[] #[]] w fun e w' => e = .returned (.int .i64 5) ∧ Below w.heap.size w w' := by
  go_enter Try.func23, Try.ntmps23
  go_wp2_with (first
    | (go_at_call_of 20 (Value.iface 48 (.pointer (some p))); (with_reducible refine (veith_A p _).mono ?_); rintro e w1 ⟨rfl, hb9⟩; obtain ⟨bs1, d1, rfl⟩ := below_grow hb9; clear hb9)
    | (go_at_call_of 20 (Value.iface 32 (.pointer (some q))); (with_reducible refine (veith_S q _).mono ?_); rintro e w1 ⟨rfl, hb9⟩; obtain ⟨bs2, d2, rfl⟩ := below_grow hb9; clear hb9))
  go_ret
  exact ⟨rfl, (by repeat' (first | (with_reducible exact Below.refl _ _) | (with_reducible assumption) | (with_reducible refine below_over ?_ _ _) | (with_reducible refine Lw.below_alloc ?_ _) | (with_reducible refine Below.drew ?_) | (with_reducible refine below_drewN ?_ _) | (with_reducible refine Below.setCell ?_ ?_ _) | go_size))⟩
set_option maxRecDepth 100000 in
set_option maxHeartbeats 4000000 in
theorem vmerge_AS (p q : Addr) (w : World) : Calls Try.prog 14 #[.iface 48 (.pointer (some p)), .iface 32 (.pointer (some q))] w fun e w' => e = .returned (.int .i64 5) ∧ Below w.heap.size w w' := by
  go_enter Try.func14, Try.ntmps14
  go_wp2_with (go_at_call 23; (with_reducible refine (vjoinmerge_AS p q _).mono ?_); rintro e w2 ⟨rfl, hb9⟩; obtain ⟨bs1, d1, rfl⟩ := below_grow hb9; clear hb9)
  go_ret
  exact ⟨rfl, (by repeat' (first | (with_reducible exact Below.refl _ _) | (with_reducible assumption) | (with_reducible refine below_over ?_ _ _) | (with_reducible refine Lw.below_alloc ?_ _) | (with_reducible refine Below.drew ?_) | (with_reducible refine below_drewN ?_ _) | (with_reducible refine Below.setCell ?_ ?_ _) | go_size))⟩
set_option maxRecDepth 100000 in
set_option maxHeartbeats 4000000 in
theorem vjoinmerge_SA (p q : Addr) (w : World) : Calls Try.prog 23 #[.iface 32 (.pointer (some p)), .iface 48 (.pointer (some q)), .func (.func 24) #[] #[], .func (.func 25) #[] #[]] w fun e w' => e = .returned (.int .i64 5) ∧ Below w.heap.size w w' := by
  go_enter Try.func23, Try.ntmps23
  go_wp2_with (first
    | (go_at_call_of 20 (Value.iface 32 (.pointer (some p))); (with_reducible refine (veith_S p _).mono ?_); rintro e w1 ⟨rfl, hb9⟩; obtain ⟨bs1, d1, rfl⟩ := below_grow hb9; clear hb9)
    | (go_at_call_of 20 (Value.iface 48 (.pointer (some q))); (with_reducible refine (veith_A q _).mono ?_); rintro e w1 ⟨rfl, hb9⟩; obtain ⟨bs2, d2, rfl⟩ := below_grow hb9; clear hb9))
  go_ret
  exact ⟨rfl, (by repeat' (first | (with_reducible exact Below.refl _ _) | (with_reducible assumption) | (with_reducible refine below_over ?_ _ _) | (with_reducible refine Lw.below_alloc ?_ _) | (with_reducible refine Below.drew ?_) | (with_reducible refine below_drewN ?_ _) | (with_reducible refine Below.setCell ?_ ?_ _) | go_size))⟩
set_option maxRecDepth 100000 in
set_option maxHeartbeats 4000000 in
theorem vmerge_SA (p q : Addr) (w : World) : Calls Try.prog 14 #[.iface 32 (.pointer (some p)), .iface 48 (.pointer (some q))] w fun e w' => e = .returned (.int .i64 5) ∧ Below w.heap.size w w' := by
  go_enter Try.func14, Try.ntmps14
  go_wp2_with (go_at_call 23; (with_reducible refine (vjoinmerge_SA p q _).mono ?_); rintro e w2 ⟨rfl, hb9⟩; obtain ⟨bs1, d1, rfl⟩ := below_grow hb9; clear hb9)
  go_ret
  exact ⟨rfl, (by repeat' (first | (with_reducible exact Below.refl _ _) | (with_reducible assumption) | (with_reducible refine below_over ?_ _ _) | (with_reducible refine Lw.below_alloc ?_ _) | (with_reducible refine Below.drew ?_) | (with_reducible refine below_drewN ?_ _) | (with_reducible refine Below.setCell ?_ ?_ _) | go_size))⟩
end Go.Proofs.Ytkannodfamnmcaa.Lev
