/- Texts that the statement LevelPlays leans on, put together: ExaCode, ExaRef. -/
import Derived.Test.YtkannodfamnmcaaGreatMa
import Derived.Test.YtkannodfamnmcaaGreatMb
import Derived.Test.YtkannodfamnmcaaGreatMc
import Derived.Test.YtkannodfamnmcaaGreatMd
import Derived.Test.YtkannodfamnmcaaGreatMe
import Derived.Test.YtkannodfamnmcaaGreatMf
import Derived.Test.YtkannodfamnmcaaGreatMg
import Derived.Test.YtkannodfamnmcaaGreatQj
import Derived.Laws.EntriesVeiled
import Derived.Deep.LoopGhost
import Derived.Deep.RegionHeld3
import Derived.Deep.DeepCutAuto
import Derived.Deep.QuietTactic
import Derived.BigQuiet
/- The walks of package exact (the code's): an array is a block of its grid of one row, its config and its level. Printed by wip/gen/exacode.py. -/
namespace Go.Proofs.YtkannodfamnmcaaGreat.Exa
open Go Go.RowKit Lw Grd Lin Con Shp Sk
set_option linter.unusedVariables false
set_option linter.unusedSimpArgs false
/-- An array of the code at p, in the blocks F. -/
def EX (w : World) (p : Addr) (F : Nat → Prop) (c : Cfg) (l : Int) (L : List Int) : Prop :=
  IsRight c ∧ c.Ok ∧ 0 ≤ l ∧ l ≤ c.bt ∧ (L.length : Int) = keys c l ∧ 1 ≤ L.length ∧ L.length ≤ 128 ∧ ∃ (b : Nat) (gp : Addr) (G : Nat → Prop), p = ⟨b, 0, none⟩ ∧ w.heap[b]? = some (.cells #[.pointer (some gp), .int .i64 c.bt, .int .i64 c.rw, .int .i64 c.wd, .int .i64 c.md, .int .u64 c.sd, .int .i64 l] 117 (0, 0)) ∧ PG w gp G 1 L.length [L] ∧ ¬ G b ∧ F = (fun k => k = b ∨ G k)
theorem EX.in64 {w : World} {p : Addr} {F : Nat → Prop} {c : Cfg} {l : Int} {L : List Int} (h : EX w p F c l L) : In64 L := by
  obtain ⟨hr, hok, hl0, hl1, hlk, hn1, hn8, b, gp, G, rfl, hb, hg, hGb, rfl⟩ := h
  exact (hg.dims.rows L (by simp)).2
theorem EX.right {w : World} {p : Addr} {F : Nat → Prop} {c : Cfg} {l : Int} {L : List Int} (h : EX w p F c l L) : IsRight c ∧ 0 ≤ l ∧ l ≤ c.bt := ⟨h.1, h.2.2.1, h.2.2.2.1⟩
theorem EX.ok {w : World} {p : Addr} {F : Nat → Prop} {c : Cfg} {l : Int} {L : List Int} (h : EX w p F c l L) : c.Ok := h.2.1
theorem EX.size {w : World} {p : Addr} {F : Nat → Prop} {c : Cfg} {l : Int} {L : List Int} (h : EX w p F c l L) : (L.length : Int) = keys c l ∧ 1 ≤ L.length ∧ L.length ≤ 128 := ⟨h.2.2.2.2.1, h.2.2.2.2.2.1, h.2.2.2.2.2.2.1⟩
theorem EX.keep {w' : World} {H : Nat → Prop} {w : World} {p : Addr} {F : Nat → Prop} {c : Cfg} {l : Int} {L : List Int} (h : EX w p F c l L) (hk : Kept H w w') (hf : ∀ k, F k → ¬ H k) : EX w' p F c l L := by
  obtain ⟨hr, hok, hl0, hl1, hlk, hn1, hn8, b, gp, G, rfl, hb, hg, hGb, rfl⟩ := h
  exact ⟨hr, hok, hl0, hl1, hlk, hn1, hn8, b, gp, G, rfl, hk.heap hb (hf b (.inl rfl)), (pgT gp G _ _ [L]).keep w w' H hg hk (fun k h => hf k (.inr h)), hGb, rfl⟩
theorem EX.up {w' : World} {w : World} {p : Addr} {F : Nat → Prop} {c : Cfg} {l : Int} {L : List Int} (h : EX w p F c l L) (hk : Below w.heap.size w w') : EX w' p F c l L := h.keep (Kept.of_below (F := fun _ => False) hk) (fun _ _ h => h)
theorem EX.lt {w : World} {p : Addr} {F : Nat → Prop} {c : Cfg} {l : Int} {L : List Int} (h : EX w p F c l L) (k : Nat) (hk : F k) : k < w.heap.size := by
  obtain ⟨hr, hok, hl0, hl1, hlk, hn1, hn8, b, gp, G, rfl, hb, hg, hGb, rfl⟩ := h
  rcases hk with rfl | hk
  · exact size_of_heap hb
  · exact (pgT gp G _ _ [L]).lt w hg k hk
def exT (p : Addr) (F : Nat → Prop) (c : Cfg) (l : Int) (L : List Int) : Thing where
  I := fun w => EX w p F c l L
  F := F
  keep := fun w w' H h hk hf => h.keep hk hf
  lt := fun w h k hk => h.lt k hk
theorem exI {w : World} {p : Addr} {F : Nat → Prop} {c : Cfg} {l : Int} {L : List Int} (h : (exT p F c l L).I w) : EX w p F c l L := h
theorem ex_turn {w w' : World} {b : Nat} {gp : Addr} {G G' : Nat → Prop} {c : Cfg} {l : Int} {L M : List Int} (hr : IsRight c) (hok : c.Ok) (hl0 : 0 ≤ l) (hl1 : l ≤ c.bt) (hlk : (L.length : Int) = keys c l) (hn1 : 1 ≤ L.length) (hn8 : L.length ≤ 128)
    (hb : w.heap[b]? = some (.cells #[.pointer (some gp), .int .i64 c.bt, .int .i64 c.rw, .int .i64 c.wd, .int .i64 c.md, .int .u64 c.sd, .int .i64 l] 117 (0, 0))) (hGb : ¬ G b) (hM : M.length = L.length) (g' : PG w' gp G' 1 L.length [M]) (hk : Kept G w w') (hG : ∀ k, G' k → G k ∨ w.heap.size ≤ k) :
    ∃ F', EX w' ⟨b, 0, none⟩ F' c l M ∧ Kept (fun k => k = b ∨ G k) w w' ∧ (∀ q, F' q → (q = b ∨ G q) ∨ w.heap.size ≤ q) := by
  have hbl := size_of_heap hb
  refine ⟨_, ⟨hr, hok, hl0, hl1, by rw [hM]; exact hlk, by rw [hM]; exact hn1, by rw [hM]; exact hn8, b, gp, G', rfl, hk.heap hb hGb, by rw [hM]; exact g', fun h => ?_, rfl⟩, hk.mono (fun k _ h => .inr h), fun q hq => ?_⟩
  · rcases hG b h with h1 | h1
    · exact hGb h1
    · omega
  · rcases hq with rfl | h1
    · exact .inl (.inl rfl)
    · rcases hG q h1 with h2 | h2
      · exact .inl (.inr h2)
      · exact .inr h2
theorem elevel_any (p : Addr) (F : Nat → Prop) (c : Cfg) (l : Int) (L : List Int) (w : World) (h : EX w p F c l L) :
    Calls Tryz.prog 86 #[.pointer (some p)] w fun e w' => e = .returned (.int .i64 l) ∧ Below w.heap.size w w' := by
  obtain ⟨hr, hok, hl0, hl1, hlk, hn1, hn8, b, gp, G, rfl, hb, hg, hGb, rfl⟩ := h
  have c6 := grd_cell hb 6 (v := .int .i64 l) rfl
  clear hb hg
  go_enter Tryz.func86, Tryz.ntmps86
  go_wp2
  go_ret
  exact ⟨rfl, Below.refl _ _⟩
set_option maxRecDepth 100000 in
theorem econfig_any (p : Addr) (F : Nat → Prop) (c : Cfg) (l : Int) (L : List Int) (w : World) (h : EX w p F c l L) :
    Calls Tryz.prog 85 #[.pointer (some p)] w fun e w' => e = .returned (.agg #[.int .i64 c.bt, .int .i64 c.rw, .int .i64 c.wd, .int .i64 c.md, .int .u64 c.sd]) ∧ Below w.heap.size w w' := by
  obtain ⟨hr, hok, hl0, hl1, hlk, hn1, hn8, b, gp, G, rfl, hb, hg, hGb, rfl⟩ := h
  have hbl := size_of_heap hb
  have c0 := grd_cell hb 0 (v := .pointer (some gp)) rfl
  have c1 := grd_cell hb 1 (v := .int .i64 c.bt) rfl
  have c2 := grd_cell hb 2 (v := .int .i64 c.rw) rfl
  have c3 := grd_cell hb 3 (v := .int .i64 c.wd) rfl
  have c4 := grd_cell hb 4 (v := .int .i64 c.md) rfl
  have c5 := grd_cell hb 5 (v := .int .u64 c.sd) rfl
  have c6 := grd_cell hb 6 (v := .int .i64 l) rfl
  clear hb hg
  go_enter Tryz.func85, Tryz.ntmps85
  go_wp2
  go_returns
  exact ⟨rfl, (by repeat' (first | (with_reducible exact Below.refl _ _) | (with_reducible assumption) | (with_reducible refine below_over ?_ _ _) | (with_reducible refine Lw.below_alloc ?_ _) | (with_reducible refine Below.drew ?_) | (with_reducible refine below_drewN ?_ _) | (with_reducible refine Below.setCell ?_ ?_ _) | go_size))⟩
set_option maxRecDepth 100000 in
theorem efalls_any (p : Addr) (F : Nat → Prop) (c : Cfg) (l : Int) (L : List Int) (w : World) (h : EX w p F c l L) :
    Calls Tryz.prog 77 #[.pointer (some p)] w fun e w' => e = .returned (.bool (c.md != 2)) ∧ Below w.heap.size w w' := by
  obtain ⟨hr, hok, hl0, hl1, hlk, hn1, hn8, b, gp, G, rfl, hb, hg, hGb, rfl⟩ := h
  have hbl := size_of_heap hb
  have c4 := grd_cell hb 4 (v := .int .i64 c.md) rfl
  clear hb hg
  go_enter Tryz.func77, Tryz.ntmps77
  go_wp2
  go_ret
  exact ⟨rfl, (by repeat' (first | (with_reducible exact Below.refl _ _) | (with_reducible assumption) | (with_reducible refine below_over ?_ _ _) | (with_reducible refine Lw.below_alloc ?_ _) | (with_reducible refine Below.drew ?_) | (with_reducible refine below_drewN ?_ _) | (with_reducible refine Below.setCell ?_ ?_ _) | go_size))⟩
theorem ecells_mid (p : Addr) (F : Nat → Prop) (c : Cfg) (l : Int) (L : List Int) (w : World) (h : EX w p F c l L) :
    Calls Tryz.prog 87 #[.pointer (some p)] w fun e w' => ∃ (g cap : Nat), e = .returned (.slice (some ⟨g, 0, none⟩) L.length cap) ∧ Ord.Mid w' g 0 L ∧ w.heap.size ≤ g ∧ L.length ≤ cap ∧ cap ≤ maxLen ∧ Below w.heap.size w w' := by
  obtain ⟨hr, hok, hl0, hl1, hlk, hn1, hn8, b, gp, G, rfl, hb, hg, hGb, rfl⟩ := h
  have c0 := grd_cell hb 0 (v := .pointer (some gp)) rfl
  have C0 := cells_mid gp G _ _ [L] w hg
  rw [Nat.one_mul, show ([L] : List (List Int)).flatten = L by simp] at C0
  have C := Lib.hid C0
  clear hb hg C0
  go_enter Tryz.func87, Tryz.ntmps87
  go_wp2_with (go_at_call 109; (with_reducible refine C.out.mono ?_); rintro e w' ⟨A, cap, rfl, h1, h2, h3, h4, h5⟩)
  go_ret
  exact ⟨A, cap, rfl, h1, h2, h3, h4, h5⟩
set_option maxRecDepth 100000 in
set_option maxHeartbeats 4000000 in
theorem enew_yes (c : Cfg) (l : Int) (w : World) (h : c.Ok) (l0 : -9223372036854775808 ≤ l) (l1 : l ≤ 9223372036854775807) (hx : exactB c l = true) :
    Calls Tryz.prog 30 #[.agg #[.int .i64 c.bt, .int .i64 c.rw, .int .i64 c.wd, .int .i64 c.md, .int .u64 c.sd], .int .i64 l] w fun e w' => ∃ (p : Addr) (F : Nat → Prop), e = .returned (.tuple #[.pointer (some p), .int .i64 0]) ∧ EX w' p F c l (List.replicate (keys c l).toNat 0) ∧ (∀ k, F k → w.heap.size ≤ k) ∧ Below w.heap.size w w' := by
  have hx2 := of_decide_eq_true hx
  have hr := keys_pos.1 hx2.1
  have hw2 := wds_bd hr.1
  have C := Lib.hid (fun w => exact_any c l w h l0 l1)
  have CK := Lib.hid (fun w => keys_any c l w h l0 l1)
  have hwd := hr.1.2.2.2.2.2.1
  obtain ⟨n, hn⟩ : ∃ n : Nat, keys c l = (n : Int) := ⟨(keys c l).toNat, by omega⟩
  have hn1 : 1 ≤ n := by omega
  have hn8 : n ≤ 128 := by omega
  have N := Lib.hid (fun w => new_any 1 (n : Int) w (by omega) (by omega) (by omega) (by omega))
  have e1 : cl 1 8 = 1 := by decide
  have e2 : cl (n : Int) 128 = n := by unfold cl; omega
  have ez : zerosL 1 n = [List.replicate n 0] := rfl
  rw [e1, e2, ez] at N
  have HR := Lib.hid hr
  rw [hx] at C
  have HK := Lib.hid hn
  rw [hn] at CK ⊢
  rw [Int.toNat_natCast]
  have u1 : IntKind.i64.wrap (n : Int) = n := IntWalk.i64_in _ ⟨by omega, by omega⟩
  clear hr hw2 e1 e2 hx2 hx ez hwd hn
  go_enter Tryz.func30, Tryz.ntmps30
  go_wp2_with (first
    | (go_at_call 29; (with_reducible refine (C.out _).mono ?_); rintro e w' ⟨rfl, hb9⟩; obtain ⟨bs, d9, rfl⟩ := below_grow hb9; clear hb9)
    | (go_at_call 28; (with_reducible refine (CK.out _).mono ?_); rintro e w' ⟨rfl, hb9⟩; obtain ⟨bs2, d2, rfl⟩ := below_grow hb9; clear hb9)
    | (go_at_call 58; (with_reducible refine (N.out _).mono ?_); rintro e w2 ⟨gp, G, rfl, hg, hG, hb9⟩; have HB2 : Hid (Below w.heap.size w w2) := Lib.hid (below_call (show Below w.heap.size w _ from (by repeat' (first | (with_reducible exact Below.refl _ _) | (with_reducible assumption) | (with_reducible refine below_over ?_ _ _) | (with_reducible refine Lw.below_alloc ?_ _) | (with_reducible refine Below.drew ?_) | (with_reducible refine below_drewN ?_ _) | (with_reducible refine Below.setCell ?_ ?_ _) | go_size))) hb9 (Nat.le_refl _)); have HQ := Lib.hid hg; have HF : Hid (∀ k, G k → w.heap.size ≤ k) := Lib.hid (fun k hk => Nat.le_trans (Below.size (show Below w.heap.size w _ from (by repeat' (first | (with_reducible exact Below.refl _ _) | (with_reducible assumption) | (with_reducible refine below_over ?_ _ _) | (with_reducible refine Lw.below_alloc ?_ _) | (with_reducible refine Below.drew ?_) | (with_reducible refine below_drewN ?_ _) | (with_reducible refine Below.setCell ?_ ?_ _) | go_size)))) (hG k hk)); have x0 : w2.cell? ⟨w.heap.size, 0, none⟩ = some (.int .i64 c.bt) := cell_up (show World.cell? _ _ = _ by simp [go_sem]) hb9; have x1 : w2.cell? ⟨w.heap.size, 1, none⟩ = some (.int .i64 c.rw) := cell_up (show World.cell? _ _ = _ by simp [go_sem]) hb9; have x2 : w2.cell? ⟨w.heap.size, 2, none⟩ = some (.int .i64 c.wd) := cell_up (show World.cell? _ _ = _ by simp [go_sem]) hb9; have x3 : w2.cell? ⟨w.heap.size, 3, none⟩ = some (.int .i64 c.md) := cell_up (show World.cell? _ _ = _ by simp [go_sem]) hb9; have x4 : w2.cell? ⟨w.heap.size, 4, none⟩ = some (.int .u64 c.sd) := cell_up (show World.cell? _ _ = _ by simp [go_sem]) hb9; have hbw2 := HB2.out; clear hg hG hb9))
  go_ret2
  have hgl := fun k (hk : G k) => (pgT gp G _ _ _).lt _ HQ.out k hk
  have hnw := heap_alloc_new w2 (.cells #[.pointer (some gp), .int .i64 c.bt, .int .i64 c.rw, .int .i64 c.wd, .int .i64 c.md, .int .u64 c.sd, .int .i64 l] 117)
  have hs := HB2.out.size
  refine ⟨⟨w2.heap.size, 0, none⟩, fun k => k = w2.heap.size ∨ G k, rfl, ⟨HR.out.1, h, HR.out.2.1, HR.out.2.2, by rw [List.length_replicate, HK.out], by rw [List.length_replicate]; exact hn1, by rw [List.length_replicate]; exact hn8, _, gp, G, rfl, hnw, by rw [List.length_replicate]; exact pg_alloc HQ.out _, fun hk => by have := hgl _ hk; omega, rfl⟩, fun k hk => ?_, ?_⟩
  · rcases hk with rfl | hk
    · exact hs
    · exact HF.out k hk
  · exact HB2.out.alloc hs _
set_option maxRecDepth 100000 in
set_option maxHeartbeats 4000000 in
theorem epoint_no (p : Addr) (F : Nat → Prop) (c : Cfg) (l : Int) (L : List Int) (k : Int) (w : World) (h : EX w p F c l L) (k0 : 0 ≤ k) (k1 : k ≤ 18446744073709551615) (hk : (L.length : Int) ≤ k) :
    Calls Tryz.prog 182 #[.pointer (some p), .int .u64 k] w fun e w' => e = .returned (.tuple #[.int .i64 0, .int .i64 2]) ∧ Below w.heap.size w w' := by
  obtain ⟨hr, hok, hl0, hl1, hlk, hn1, hn8, b, gp, G, rfl, hb, hg, hGb, rfl⟩ := h
  have hbl := size_of_heap hb
  have c0 := grd_cell hb 0 (v := .pointer (some gp)) rfl
  have c1 := grd_cell hb 1 (v := .int .i64 c.bt) rfl
  have c2 := grd_cell hb 2 (v := .int .i64 c.rw) rfl
  have c3 := grd_cell hb 3 (v := .int .i64 c.wd) rfl
  have c4 := grd_cell hb 4 (v := .int .i64 c.md) rfl
  have c5 := grd_cell hb 5 (v := .int .u64 c.sd) rfl
  have c6 := grd_cell hb 6 (v := .int .i64 l) rfl
  have CK := Lib.hid (fun w => keys_any c l w hok (by omega) (by have := hr.2.1; omega))
  rw [← hlk] at CK
  clear hb hg hlk
  go_enter Tryz.func182, Tryz.ntmps182
  go_wp2
  go_region_held3 (fun w' => w'.cell? ⟨b, 1, none⟩ = some (.int .i64 c.bt) ∧ w'.cell? ⟨b, 2, none⟩ = some (.int .i64 c.rw) ∧ w'.cell? ⟨b, 3, none⟩ = some (.int .i64 c.wd) ∧ w'.cell? ⟨b, 4, none⟩ = some (.int .i64 c.md) ∧ w'.cell? ⟨b, 5, none⟩ = some (.int .u64 c.sd) ∧ w'.cell? ⟨b, 6, none⟩ = some (.int .i64 l)) (first | (refine ⟨?_, ?_, ?_, ?_, ?_, ?_⟩ <;> (first | (with_reducible assumption) | (with_reducible refine cell_up c1 ?_) | (with_reducible refine cell_up c2 ?_) | (with_reducible refine cell_up c3 ?_) | (with_reducible refine cell_up c4 ?_) | (with_reducible refine cell_up c5 ?_) | (with_reducible refine cell_up c6 ?_)) <;> (repeat' (first | (with_reducible exact Below.refl _ _) | (with_reducible assumption) | (with_reducible refine below_over ?_ _ _) | (with_reducible refine Lw.below_alloc ?_ _) | (with_reducible refine Below.drew ?_) | (with_reducible refine below_drewN ?_ _) | (with_reducible refine Below.setCell ?_ ?_ _) | go_size)))) (first
    | (go_at_call 28; (with_reducible refine (CK.out _).mono ?_); rintro e w' ⟨rfl, hb9⟩; obtain ⟨bs, d9, rfl⟩ := below_grow hb9; clear hb9))
  all_goals go_wp2
  all_goals go_ret2
  all_goals exact ⟨rfl, (by repeat' (first | (with_reducible exact Below.refl _ _) | (with_reducible assumption) | (with_reducible refine below_over ?_ _ _) | (with_reducible refine Lw.below_alloc ?_ _) | (with_reducible refine Below.drew ?_) | (with_reducible refine below_drewN ?_ _) | (with_reducible refine Below.setCell ?_ ?_ _) | go_size))⟩
set_option maxRecDepth 100000 in
set_option maxHeartbeats 4000000 in
theorem epoint_yes (p : Addr) (F : Nat → Prop) (c : Cfg) (l : Int) (L : List Int) (k : Int) (w : World) (h : EX w p F c l L) (k0 : 0 ≤ k) (k1 : k ≤ 18446744073709551615) (hk : k < (L.length : Int)) :
    Calls Tryz.prog 182 #[.pointer (some p), .int .u64 k] w fun e w' => e = .returned (.tuple #[.int .i64 (num L k), .int .i64 0]) ∧ Below w.heap.size w w' := by
  obtain ⟨hr, hok, hl0, hl1, hlk, hn1, hn8, b, gp, G, rfl, hb, hg, hGb, rfl⟩ := h
  have hbl := size_of_heap hb
  have c0 := grd_cell hb 0 (v := .pointer (some gp)) rfl
  have c1 := grd_cell hb 1 (v := .int .i64 c.bt) rfl
  have c2 := grd_cell hb 2 (v := .int .i64 c.rw) rfl
  have c3 := grd_cell hb 3 (v := .int .i64 c.wd) rfl
  have c4 := grd_cell hb 4 (v := .int .i64 c.md) rfl
  have c5 := grd_cell hb 5 (v := .int .u64 c.sd) rfl
  have c6 := grd_cell hb 6 (v := .int .i64 l) rfl
  have CK := Lib.hid (fun w => keys_any c l w hok (by omega) (by have := hr.2.1; omega))
  rw [← hlk] at CK
  have hkx : ¬ (L.length : Int) ≤ k := by omega
  have u1 : IntKind.i64.wrap k = k := IntWalk.i64_in _ ⟨by omega, by omega⟩
  have AT : Hid (∀ w', Below w.heap.size w w' → _) := Lib.hid (fun w' hb2 => at_any gp G 1 L.length [L] 0 k w' (pg_up hg hb2) (by omega) (by omega) (by omega) (by omega))
  rw [at_one L k0] at AT
  clear hb hg hlk
  go_enter Tryz.func182, Tryz.ntmps182
  go_wp2
  go_region_held3 (fun w' => w'.cell? ⟨b, 1, none⟩ = some (.int .i64 c.bt) ∧ w'.cell? ⟨b, 2, none⟩ = some (.int .i64 c.rw) ∧ w'.cell? ⟨b, 3, none⟩ = some (.int .i64 c.wd) ∧ w'.cell? ⟨b, 4, none⟩ = some (.int .i64 c.md) ∧ w'.cell? ⟨b, 5, none⟩ = some (.int .u64 c.sd) ∧ w'.cell? ⟨b, 6, none⟩ = some (.int .i64 l)) (first | (refine ⟨?_, ?_, ?_, ?_, ?_, ?_⟩ <;> (first | (with_reducible assumption) | (with_reducible refine cell_up c1 ?_) | (with_reducible refine cell_up c2 ?_) | (with_reducible refine cell_up c3 ?_) | (with_reducible refine cell_up c4 ?_) | (with_reducible refine cell_up c5 ?_) | (with_reducible refine cell_up c6 ?_)) <;> (repeat' (first | (with_reducible exact Below.refl _ _) | (with_reducible assumption) | (with_reducible refine below_over ?_ _ _) | (with_reducible refine Lw.below_alloc ?_ _) | (with_reducible refine Below.drew ?_) | (with_reducible refine below_drewN ?_ _) | (with_reducible refine Below.setCell ?_ ?_ _) | go_size)))) (first
    | (go_at_call 28; (with_reducible refine (CK.out _).mono ?_); rintro e w' ⟨rfl, hb9⟩; obtain ⟨bs, d9, rfl⟩ := below_grow hb9; clear hb9))
  all_goals (go_wp2_with (go_at_call 135; (with_reducible refine (AT.out _ (by repeat' (first | (with_reducible exact Below.refl _ _) | (with_reducible assumption) | (with_reducible refine below_over ?_ _ _) | (with_reducible refine Lw.below_alloc ?_ _) | (with_reducible refine Below.drew ?_) | (with_reducible refine below_drewN ?_ _) | (with_reducible refine Below.setCell ?_ ?_ _) | go_size))).mono ?_); rintro e w' ⟨rfl, hb9⟩; obtain ⟨bs2, d2, rfl⟩ := below_grow hb9; clear hb9))
  all_goals go_ret2
  all_goals exact ⟨rfl, (by repeat' (first | (with_reducible exact Below.refl _ _) | (with_reducible assumption) | (with_reducible refine below_over ?_ _ _) | (with_reducible refine Lw.below_alloc ?_ _) | (with_reducible refine Below.drew ?_) | (with_reducible refine below_drewN ?_ _) | (with_reducible refine Below.setCell ?_ ?_ _) | go_size))⟩
set_option maxRecDepth 100000 in
set_option maxHeartbeats 4000000 in
theorem esum_no (p : Addr) (F : Nat → Prop) (c : Cfg) (l : Int) (L : List Int) (k d : Int) (w : World) (h : EX w p F c l L) (k0 : 0 ≤ k) (k1 : k ≤ 18446744073709551615) (d0 : -9223372036854775808 ≤ d) (d1 : d ≤ 9223372036854775807) (hk : (L.length : Int) ≤ k) :
    Calls Tryz.prog 184 #[.pointer (some p), .int .u64 k, .int .i64 d] w fun e w' => e = .returned (.tuple #[.int .i64 (0), .int .i64 2]) ∧ Below w.heap.size w w' := by
  have CP := Lib.hid (epoint_no p F c l L k w h k0 k1 hk)
  clear h
  go_enter Tryz.func184, Tryz.ntmps184
  go_wp2_with (go_at_call 182; (with_reducible refine (CP.out).mono ?_); rintro e w1 ⟨rfl, hb9⟩; have HB1 := Lib.hid hb9; clear hb9)
  go_ret2
  exact ⟨rfl, HB1.out⟩
set_option maxRecDepth 100000 in
set_option maxHeartbeats 4000000 in
theorem esum_mode (p : Addr) (F : Nat → Prop) (c : Cfg) (l : Int) (L : List Int) (k d : Int) (w : World) (h : EX w p F c l L) (k0 : 0 ≤ k) (k1 : k ≤ 18446744073709551615) (d0 : -9223372036854775808 ≤ d) (d1 : d ≤ 9223372036854775807) (hk : k < (L.length : Int)) (hm : c.md = 2 ∧ d < 0) :
    Calls Tryz.prog 184 #[.pointer (some p), .int .u64 k, .int .i64 d] w fun e w' => e = .returned (.tuple #[.int .i64 (0), .int .i64 3]) ∧ Below w.heap.size w w' := by
  have CP := Lib.hid (epoint_yes p F c l L k w h k0 k1 hk)
  have FW : Hid (∀ w', Below w.heap.size w w' → _) := Lib.hid (fun w' hb2 => efalls_any p F c l L w' (h.up hb2))
  rw [show (c.md != 2) = false by simp [hm.1]] at FW
  have hd := hm.2
  clear h hm
  go_enter Tryz.func184, Tryz.ntmps184
  go_wp2_with (first
    | (go_at_call 182; (with_reducible refine (CP.out).mono ?_); rintro e w1 ⟨rfl, hb9⟩; have HB1 := Lib.hid hb9; clear hb9)
    | (go_at_call 77; (with_reducible refine (FW.out _ HB1.out).mono ?_); rintro e w2 ⟨rfl, hb9⟩; have HB2 := Lib.hid (below_call HB1.out hb9 (Nat.le_refl _)); clear hb9))
  go_ret2
  exact ⟨rfl, HB2.out⟩
set_option maxRecDepth 100000 in
set_option maxHeartbeats 4000000 in
theorem esum_over (p : Addr) (F : Nat → Prop) (c : Cfg) (l : Int) (L : List Int) (k d : Int) (w : World) (h : EX w p F c l L) (k0 : 0 ≤ k) (k1 : k ≤ 18446744073709551615) (d0 : -9223372036854775808 ≤ d) (d1 : d ≤ 9223372036854775807) (hk : k < (L.length : Int)) (hm : ¬ (c.md = 2 ∧ d < 0)) (hf : Wid.fit64 (num L k + d) = false) :
    Calls Tryz.prog 184 #[.pointer (some p), .int .u64 k, .int .i64 d] w fun e w' => e = .returned (.tuple #[.int .i64 (0), .int .i64 4]) ∧ Below w.heap.size w w' := by
  have hv : -9223372036854775808 ≤ num L k ∧ num L k ≤ 9223372036854775807 := by
    have h0 := h.in64
    obtain ⟨v, hv⟩ : ∃ v, L[k.toNat]? = some v := ⟨_, List.getElem?_eq_getElem (by omega)⟩
    have : num L k = v := by unfold num; rw [hv]; rfl
    rw [this]
    exact h0.at hv
  have CQ := Lib.hid (epoint_yes p F c l L k w h k0 k1 hk)
  have CP := Lib.hid (fun w => Wid.plus_any (num L k) d w hv.1 hv.2 d0 d1)
  rw [hf] at CP
  clear hf
  have FW : Hid (∀ w', Below w.heap.size w w' → _) := Lib.hid (fun w' hb2 => efalls_any p F c l L w' (h.up hb2))
  by_cases hd : d < 0
  · rw [show (c.md != 2) = true by simp; omega] at FW
    clear h hm hv
    go_enter Tryz.func184, Tryz.ntmps184
    go_wp2_with (first
      | (go_at_call 182; (with_reducible refine (CQ.out).mono ?_); rintro e w1 ⟨rfl, hb9⟩; have HB1 := Lib.hid hb9; clear hb9)
      | (go_at_call 77; (with_reducible refine (FW.out _ HB1.out).mono ?_); rintro e w2 ⟨rfl, hb9⟩; have HB2 := Lib.hid (below_call HB1.out hb9 (Nat.le_refl _)); clear hb9)
      | (go_at_call 101; (with_reducible refine (CP.out _).mono ?_); rintro e w3 ⟨rfl, hb9⟩; have HB3 := Lib.hid (below_call HB2.out hb9 (Nat.le_refl _)); clear hb9))
    go_ret2
    exact ⟨rfl, HB3.out⟩
  · clear h hm hv
    go_enter Tryz.func184, Tryz.ntmps184
    go_wp2_with (first
      | (go_at_call 182; (with_reducible refine (CQ.out).mono ?_); rintro e w1 ⟨rfl, hb9⟩; have HB1 := Lib.hid hb9; clear hb9)
      
      | (go_at_call 101; (with_reducible refine (CP.out _).mono ?_); rintro e w3 ⟨rfl, hb9⟩; have HB3 := Lib.hid (below_call HB1.out hb9 (Nat.le_refl _)); clear hb9))
    go_ret2
    exact ⟨rfl, HB3.out⟩
set_option maxRecDepth 100000 in
set_option maxHeartbeats 4000000 in
theorem esum_yes (p : Addr) (F : Nat → Prop) (c : Cfg) (l : Int) (L : List Int) (k d : Int) (w : World) (h : EX w p F c l L) (k0 : 0 ≤ k) (k1 : k ≤ 18446744073709551615) (d0 : -9223372036854775808 ≤ d) (d1 : d ≤ 9223372036854775807) (hk : k < (L.length : Int)) (hm : ¬ (c.md = 2 ∧ d < 0)) (hf : Wid.fit64 (num L k + d) = true) :
    Calls Tryz.prog 184 #[.pointer (some p), .int .u64 k, .int .i64 d] w fun e w' => e = .returned (.tuple #[.int .i64 (num L k + d), .int .i64 0]) ∧ Below w.heap.size w w' := by
  have hv : -9223372036854775808 ≤ num L k ∧ num L k ≤ 9223372036854775807 := by
    have h0 := h.in64
    obtain ⟨v, hv⟩ : ∃ v, L[k.toNat]? = some v := ⟨_, List.getElem?_eq_getElem (by omega)⟩
    have : num L k = v := by unfold num; rw [hv]; rfl
    rw [this]
    exact h0.at hv
  have CQ := Lib.hid (epoint_yes p F c l L k w h k0 k1 hk)
  have CP := Lib.hid (fun w => Wid.plus_any (num L k) d w hv.1 hv.2 d0 d1)
  have hfz := in64_fit hf
  rw [hf, (Wid.fit64_yes hfz.1 (by omega)).2] at CP
  obtain ⟨S, hS⟩ : ∃ S, num L k + d = S := ⟨_, rfl⟩
  rw [hS] at CP ⊢
  clear hf hfz hS
  have FW : Hid (∀ w', Below w.heap.size w w' → _) := Lib.hid (fun w' hb2 => efalls_any p F c l L w' (h.up hb2))
  by_cases hd : d < 0
  · rw [show (c.md != 2) = true by simp; omega] at FW
    clear h hm hv
    go_enter Tryz.func184, Tryz.ntmps184
    go_wp2_with (first
      | (go_at_call 182; (with_reducible refine (CQ.out).mono ?_); rintro e w1 ⟨rfl, hb9⟩; have HB1 := Lib.hid hb9; clear hb9)
      | (go_at_call 77; (with_reducible refine (FW.out _ HB1.out).mono ?_); rintro e w2 ⟨rfl, hb9⟩; have HB2 := Lib.hid (below_call HB1.out hb9 (Nat.le_refl _)); clear hb9)
      | (go_at_call 101; (with_reducible refine (CP.out _).mono ?_); rintro e w3 ⟨rfl, hb9⟩; have HB3 := Lib.hid (below_call HB2.out hb9 (Nat.le_refl _)); clear hb9))
    go_ret2
    exact ⟨rfl, HB3.out⟩
  · clear h hm hv
    go_enter Tryz.func184, Tryz.ntmps184
    go_wp2_with (first
      | (go_at_call 182; (with_reducible refine (CQ.out).mono ?_); rintro e w1 ⟨rfl, hb9⟩; have HB1 := Lib.hid hb9; clear hb9)
      
      | (go_at_call 101; (with_reducible refine (CP.out _).mono ?_); rintro e w3 ⟨rfl, hb9⟩; have HB3 := Lib.hid (below_call HB1.out hb9 (Nat.le_refl _)); clear hb9))
    go_ret2
    exact ⟨rfl, HB3.out⟩
def sumV (md : Int) (L : List Int) (k d : Int) : Int := if exCode md L k d = 0 then num L k + d else 0
theorem esum_any (p : Addr) (F : Nat → Prop) (c : Cfg) (l : Int) (L : List Int) (k d : Int) (w : World) (h : EX w p F c l L) (k0 : 0 ≤ k) (k1 : k ≤ 18446744073709551615) (d0 : -9223372036854775808 ≤ d) (d1 : d ≤ 9223372036854775807) :
    Calls Tryz.prog 184 #[.pointer (some p), .int .u64 k, .int .i64 d] w fun e w' => e = .returned (.tuple #[.int .i64 (sumV c.md L k d), .int .i64 (exCode c.md L k d)]) ∧ Below w.heap.size w w' := by
  by_cases hk : (L.length : Int) ≤ k
  · have e := ex_key (md := c.md) (d := d) hk
    rw [show sumV c.md L k d = 0 by unfold sumV; rw [e.1]; rfl, e.1]
    exact esum_no p F c l L k d w h k0 k1 d0 d1 hk
  have hk2 : k < (L.length : Int) := by omega
  by_cases hm : c.md = 2 ∧ d < 0
  · have e := ex_mode (md := c.md) (d := d) hk2 hm
    rw [show sumV c.md L k d = 0 by unfold sumV; rw [e.1]; rfl, e.1]
    exact esum_mode p F c l L k d w h k0 k1 d0 d1 hk2 hm
  cases hf : Wid.fit64 (num L k + d) with
  | true =>
    have e := ex_yes (md := c.md) hk2 hm hf
    rw [show sumV c.md L k d = num L k + d by unfold sumV; rw [e.1]; rfl, e.1]
    exact esum_yes p F c l L k d w h k0 k1 d0 d1 hk2 hm hf
  | false =>
    have e := ex_over (md := c.md) hk2 hm hf
    rw [show sumV c.md L k d = 0 by unfold sumV; rw [e.1]; rfl, e.1]
    exact esum_over p F c l L k d w h k0 k1 d0 d1 hk2 hm hf
set_option maxRecDepth 100000 in
set_option maxHeartbeats 4000000 in
theorem echeck_any (p : Addr) (F : Nat → Prop) (c : Cfg) (l : Int) (L : List Int) (k d : Int) (w : World) (h : EX w p F c l L) (k0 : 0 ≤ k) (k1 : k ≤ 18446744073709551615) (d0 : -9223372036854775808 ≤ d) (d1 : d ≤ 9223372036854775807) :
    Calls Tryz.prog 180 #[.pointer (some p), .int .u64 k, .int .i64 d] w fun e w' => e = .returned (.int .i64 (exCode c.md L k d)) ∧ Below w.heap.size w w' := by
  have CS := Lib.hid (esum_any p F c l L k d w h k0 k1 d0 d1)
  clear h
  go_enter Tryz.func180, Tryz.ntmps180
  go_wp2_with (go_at_call 184; (with_reducible refine (CS.out).mono ?_); rintro e w1 ⟨rfl, hb9⟩; have HB1 := Lib.hid hb9; clear hb9)
  go_ret
  exact ⟨rfl, HB1.out⟩
set_option maxRecDepth 100000 in
set_option maxHeartbeats 4000000 in
theorem eupd_no (p : Addr) (F : Nat → Prop) (c : Cfg) (l : Int) (L : List Int) (k d : Int) (w : World) (h : EX w p F c l L) (k0 : 0 ≤ k) (k1 : k ≤ 18446744073709551615) (d0 : -9223372036854775808 ≤ d) (d1 : d ≤ 9223372036854775807) (hz : exCode c.md L k d ≠ 0) :
    Calls Tryz.prog 183 #[.pointer (some p), .int .u64 k, .int .i64 d] w fun e w' => e = .returned (.int .i64 (exCode c.md L k d)) ∧ Below w.heap.size w w' := by
  have CS := Lib.hid (esum_any p F c l L k d w h k0 k1 d0 d1)
  obtain ⟨V, hV⟩ : ∃ V, exCode c.md L k d = V := ⟨_, rfl⟩
  rw [hV] at CS hz ⊢
  have hz2 : (V == 0) = false := by simpa using hz
  clear h hV
  go_enter Tryz.func183, Tryz.ntmps183
  go_wp2_with (go_at_call 184; (with_reducible refine (CS.out).mono ?_); rintro e w1 ⟨rfl, hb9⟩; have HB1 := Lib.hid hb9; clear hb9)
  go_ret
  exact ⟨rfl, HB1.out⟩
set_option maxRecDepth 100000 in
set_option maxHeartbeats 4000000 in
theorem eupd_yes (p : Addr) (F : Nat → Prop) (c : Cfg) (l : Int) (L : List Int) (k d : Int) (w : World) (h : EX w p F c l L) (k0 : 0 ≤ k) (k1 : k ≤ 18446744073709551615) (d0 : -9223372036854775808 ≤ d) (d1 : d ≤ 9223372036854775807) (hz : exCode c.md L k d = 0) :
    Calls Tryz.prog 183 #[.pointer (some p), .int .u64 k, .int .i64 d] w fun e w' => e = .returned (.int .i64 0) ∧ ∃ F', EX w' p F' c l (exRes c.md L k d) ∧ Kept F w w' ∧ (∀ q, F' q → F q ∨ w.heap.size ≤ q) := by
  have CS := Lib.hid (esum_any p F c l L k d w h k0 k1 d0 d1)
  have hx := ex_zero hz
  have hfz := in64_fit hx.2
  rw [show sumV c.md L k d = num L k + d from if_pos hz, hz] at CS
  rw [show exRes c.md L k d = L.set k.toNat (num L k + d) from if_pos hz]
  obtain ⟨S, hS⟩ : ∃ S, num L k + d = S := ⟨_, rfl⟩
  rw [hS] at CS hfz ⊢
  obtain ⟨hr, hok, hl0, hl1, hlk, hn1, hn8, b, gp, G, rfl, hb, hg, hGb, rfl⟩ := h
  have hbl := size_of_heap hb
  have c0w := grd_cell hb 0 (v := .pointer (some gp)) rfl
  have u1 : IntKind.i64.wrap k = k := IntWalk.i64_in _ ⟨by omega, by omega⟩
  have PT : Hid (∀ w', Below w.heap.size w w' → Calls Tryz.prog 123 #[.pointer (some gp), .int .i64 0, .int .i64 k, .int .i64 S] w' fun e w2 => (∃ b, e = .returned (.bool b)) ∧ ∃ G', PG w2 gp G' 1 L.length [L.set k.toNat S] ∧ Kept G w w2 ∧ (∀ q, G' q → G q ∨ w.heap.size ≤ q)) := Lib.hid (fun w' hb2 => (put_any gp G 1 L.length [L] 0 k S w' (pg_up hg hb2) (by omega) (by omega) (by omega) (by omega) hfz.1 hfz.2).mono (fun e w2 ⟨e1, G', h1, h2, h3⟩ => ⟨⟨_, e1⟩, G', by rw [← set_one L k0 hx.1 S]; exact h1, (Kept.of_below hb2).trans h2 (fun q hq h => h), fun q hq => (h3 q hq).elim .inl (fun h => .inr (Nat.le_trans hb2.size h))⟩))
  have HT : Hid (∀ w' G', PG w' gp G' 1 L.length [L.set k.toNat S] → Kept G w w' → (∀ k, G' k → G k ∨ w.heap.size ≤ k) → ∃ F', EX w' ⟨b, 0, none⟩ F' c l (L.set k.toNat S) ∧ Kept (fun k => k = b ∨ G k) w w' ∧ (∀ q, F' q → (q = b ∨ G q) ∨ w.heap.size ≤ q)) := Lib.hid (fun w' G' h1 h2 h3 => ex_turn hr hok hl0 hl1 hlk hn1 hn8 hb hGb (List.length_set ..) h1 h2 h3)
  have HX := Lib.hid hfz
  clear hb hg hz hx hfz hS
  go_enter Tryz.func183, Tryz.ntmps183
  go_wp2_with (go_at_call 184; (with_reducible refine (CS.out).mono ?_); rintro e w1 ⟨rfl, hb9⟩; have HB1 := Lib.hid hb9; have x0 := cell_up c0w hb9; clear hb9)
  go_wp2_with (go_at_call 123; (with_reducible refine (PT.out _ HB1.out).mono ?_); rintro e w6 ⟨⟨bb, rfl⟩, G6, hp6, hk6, hf6⟩; have HP6 := Lib.hid hp6; have HK6 := Lib.hid hk6; have HF6 := Lib.hid hf6; clear hp6 hk6 hf6)
  go_ret
  exact ⟨rfl, HT.out _ _ HP6.out HK6.out HF6.out⟩
theorem eupd_any (p : Addr) (F : Nat → Prop) (c : Cfg) (l : Int) (L : List Int) (k d : Int) (w : World) (h : EX w p F c l L) (k0 : 0 ≤ k) (k1 : k ≤ 18446744073709551615) (d0 : -9223372036854775808 ≤ d) (d1 : d ≤ 9223372036854775807) :
    Calls Tryz.prog 183 #[.pointer (some p), .int .u64 k, .int .i64 d] w fun e w' => e = .returned (.int .i64 (exCode c.md L k d)) ∧ ∃ F', EX w' p F' c l (exRes c.md L k d) ∧ Kept F w w' ∧ (∀ q, F' q → F q ∨ w.heap.size ≤ q) := by
  by_cases hz : exCode c.md L k d = 0
  · rw [hz]
    exact eupd_yes p F c l L k d w h k0 k1 d0 d1 hz
  · rw [show exRes c.md L k d = L from if_neg hz]
    exact (eupd_no p F c l L k d w h k0 k1 d0 d1 hz).mono (fun e w' h2 => ⟨h2.1, F, h.up h2.2, Kept.of_below h2.2, fun q hq => .inl hq⟩)
set_option maxRecDepth 100000 in
set_option maxHeartbeats 4000000 in
theorem eload_yes (p : Addr) (F : Nat → Prop) (c : Cfg) (l : Int) (L : List Int) (A : Option Addr) (N cap : Nat) (zs : List Int) (w : World) (h : EX w p F c l L) (hc : Rd .i64 w A zs) (hl : zs.length = N) (hz : In64 zs) (hap : ∀ a, A = some a → ¬ F a.block) (he : N = L.length) :
    Calls Tryz.prog 181 #[.pointer (some p), .slice A N cap] w fun e w' => e = .returned (.bool true) ∧ ∃ F', EX w' p F' c l zs ∧ Kept F w w' ∧ (∀ k, F' k → F k ∨ w.heap.size ≤ k) := by
  obtain ⟨hr, hok, hl0, hl1, hlk, hn1, hn8, b, gp, G, rfl, hb, hg, hGb, rfl⟩ := h
  have hbl := size_of_heap hb
  have c0w := grd_cell hb 0 (v := .pointer (some gp)) rfl
  have WD := Lib.hid (width_any gp G 1 L.length [L] w hg)
  subst he
  obtain ⟨a, rfl⟩ := hc.some_of (by omega)
  have HT : Hid (∀ w' G', PG w' gp G' 1 L.length [zs] → Kept G w w' → (∀ k, G' k → G k ∨ w.heap.size ≤ k) → ∃ F', EX w' ⟨b, 0, none⟩ F' c l zs ∧ Kept (fun k => k = b ∨ G k) w w' ∧ (∀ q, F' q → (q = b ∨ G q) ∨ w.heap.size ≤ q)) := Lib.hid (fun w' G' h1 h2 h3 => ex_turn hr hok hl0 hl1 hlk hn1 hn8 hb hGb hl h1 h2 h3)
  have HG := Lib.hid hg
  have HC := Lib.hid hc
  have HL := Lib.hid hl
  have HZ := Lib.hid hz
  have HGB := Lib.hid hGb
  have hapG : ¬ G a.block := fun hk => hap a rfl (.inr hk)
  obtain ⟨N, hN⟩ : ∃ N, L.length = N := ⟨_, rfl⟩
  have HN := Lib.hid hN
  rw [hN] at WD HT HG HL hn8 ⊢
  clear hb hg hc hl hz hGb hap hlk hN hn1
  go_enter Tryz.func181, Tryz.ntmps181
  go_wp2_with (go_at_call 133; (with_reducible refine (WD.out).mono ?_); rintro e w1 ⟨rfl, hb9⟩; have HB1 := Lib.hid hb9; clear hb9)
  go_loopw [17] (fun i wr => ∃ (j : Nat), j ≤ N ∧ i = .int .i64 j ∧ ∃ Gj, PG wr gp Gj 1 N [upto2 L zs j] ∧ Kept G w wr ∧ (∀ k, Gj k → G k ∨ w.heap.size ≤ k)) (fun i _ => N - (intOf i).toNat)
  case atStart => exact ⟨0, Nat.zero_le _, rfl, G, by rw [upto2_start]; exact pg_up HG.out HB1.out, Kept.of_below HB1.out, fun k hk => .inl hk⟩
  case round =>
    obtain ⟨j, hj, rfl, Gj, hpg, hk, hgj⟩ := hrel
    have HPj := Lib.hid hpg
    have HKj := Lib.hid hk
    have HGj := Lib.hid hgj
    clear hpg hk hgj
    by_cases hlt : j < N
    · obtain ⟨z, hz⟩ : ∃ z, zs[j]? = some z := ⟨_, List.getElem?_eq_getElem (by rw [HL.out]; exact hlt)⟩
      have zb := HZ.out.at hz
      have c1 := HKj.out.cell (HC.out.at hz) (by have e : (a.add j).block = a.block := by { unfold Addr.add; split <;> rfl }
                                                 rw [e]; exact hapG)
      have c0 := HKj.out.cell c0w HGB.out
      have HZ2 := Lib.hid hz
      have hlu : (upto2 L zs j).length = N := by rw [upto2_len HN.out HL.out (by omega)]
      have PT : Hid (Calls Tryz.prog 123 #[.pointer (some gp), .int .i64 0, .int .i64 (j : Int), .int .i64 z] wr fun e w2 => (∃ b, e = .returned (.bool b)) ∧ ∃ G', PG w2 gp G' 1 N [upto2 L zs (j + 1)] ∧ Kept G w w2 ∧ (∀ q, G' q → G q ∨ w.heap.size ≤ q)) := Lib.hid ((put_any gp Gj 1 N [upto2 L zs j] 0 j z wr HPj.out (by omega) (by omega) (by omega) (by omega) zb.1 zb.2).mono (fun e w2 ⟨e1, G', h1, h2, h3⟩ => ⟨⟨_, e1⟩, G', by rw [set_one _ (by omega) (by omega) z, Int.toNat_natCast, upto2_set HN.out HL.out HZ2.out] at h1; exact h1, HKj.out.trans h2 (fun q hq h => (HGj.out q h).elim id (fun h4 => by omega)), fun q hq => (h3 q hq).elim (fun h4 => HGj.out q h4) (fun h4 => .inr (Nat.le_trans HKj.out.size h4))⟩))
      clear hz hlu
      go_wp2_with (go_at_call 123; (with_reducible refine (PT.out).mono ?_); rintro e w6 ⟨⟨bb, rfl⟩, G6, hp6, hk6, hf6⟩; have HP6 := Lib.hid hp6; have HK6 := Lib.hid hk6; have HF6 := Lib.hid hf6; clear hp6 hk6 hf6)
      go_roundw
      case rel => exact ⟨j + 1, by omega, by go_num, G6, HP6.out, HK6.out, HF6.out⟩
      case measure => simp [intOf]; omega
    · have e : j = N := by omega
      subst e
      go_wp2
      go_ret
      exact ⟨rfl, HT.out _ _ (by have := HPj.out; rw [upto2_end HN.out HL.out] at this; exact this) HKj.out HGj.out⟩
set_option maxRecDepth 100000 in
set_option maxHeartbeats 4000000 in
theorem ecopy_any (p : Addr) (F : Nat → Prop) (c : Cfg) (l : Int) (L : List Int) (w : World) (h : EX w p F c l L) :
    Calls Tryz.prog 51 #[.pointer (some p)] w fun e w' => ∃ (q : Addr) (G : Nat → Prop), e = .returned (.pointer (some q)) ∧ EX w' q G c l L ∧ (∀ k, G k → w.heap.size ≤ k) ∧ Below w.heap.size w w' := by
  obtain ⟨hr, hok, hl0, hl1, hlk, hn1, hn8, b, gp, G, rfl, hb, hg, hGb, rfl⟩ := h
  have hbl := size_of_heap hb
  have c0 := grd_cell hb 0 (v := .pointer (some gp)) rfl
  have c1 := grd_cell hb 1 (v := .int .i64 c.bt) rfl
  have c2 := grd_cell hb 2 (v := .int .i64 c.rw) rfl
  have c3 := grd_cell hb 3 (v := .int .i64 c.wd) rfl
  have c4 := grd_cell hb 4 (v := .int .i64 c.md) rfl
  have c5 := grd_cell hb 5 (v := .int .u64 c.sd) rfl
  have c6 := grd_cell hb 6 (v := .int .i64 l) rfl
  have HR := Lib.hid (And.intro hr (And.intro hok (And.intro hl0 (And.intro hl1 (And.intro hlk (And.intro hn1 hn8))))))
  have CP := Lib.hid (fun w' hd => copy_any gp G 1 L.length [L] w' hd)
  have HG := Lib.hid hg
  clear hb hg hr hok hl0 hl1 hlk hn1 hn8
  go_enter Tryz.func51, Tryz.ntmps51
  go_upto_region 1 with fail
  go_region_held3 (fun w' => w'.cell? ⟨b, 0, none⟩ = some (.pointer (some gp)) ∧ w'.cell? ⟨b, 1, none⟩ = some (.int .i64 c.bt) ∧ w'.cell? ⟨b, 2, none⟩ = some (.int .i64 c.rw) ∧ w'.cell? ⟨b, 3, none⟩ = some (.int .i64 c.wd) ∧ w'.cell? ⟨b, 4, none⟩ = some (.int .i64 c.md) ∧ w'.cell? ⟨b, 5, none⟩ = some (.int .u64 c.sd) ∧ w'.cell? ⟨b, 6, none⟩ = some (.int .i64 l)) (first | (refine ⟨?_, ?_, ?_, ?_, ?_, ?_, ?_⟩ <;> (first | (with_reducible assumption) | (with_reducible refine cell_up c0 ?_) | (with_reducible refine cell_up c1 ?_) | (with_reducible refine cell_up c2 ?_) | (with_reducible refine cell_up c3 ?_) | (with_reducible refine cell_up c4 ?_) | (with_reducible refine cell_up c5 ?_) | (with_reducible refine cell_up c6 ?_)) <;> (repeat' (first | (with_reducible exact Below.refl _ _) | (with_reducible assumption) | (with_reducible refine below_over ?_ _ _) | (with_reducible refine Lw.below_alloc ?_ _) | (with_reducible refine Below.drew ?_) | (with_reducible refine below_drewN ?_ _) | (with_reducible refine Below.setCell ?_ ?_ _) | go_size)))) (first
    | (go_at_call 78; (with_reducible refine (CP.out _ (pg_up HG.out (by repeat' (first | (with_reducible exact Below.refl _ _) | (with_reducible assumption) | (with_reducible refine below_over ?_ _ _) | (with_reducible refine Lw.below_alloc ?_ _) | (with_reducible refine Below.drew ?_) | (with_reducible refine below_drewN ?_ _) | (with_reducible refine Below.setCell ?_ ?_ _) | go_size)))).mono ?_); rintro e w2 ⟨gq, Gq, rfl, hq1, hq2, hb2⟩; have HB2 : Hid (Below w.heap.size w w2) := Lib.hid (below_call (show Below w.heap.size w _ from (by repeat' (first | (with_reducible exact Below.refl _ _) | (with_reducible assumption) | (with_reducible refine below_over ?_ _ _) | (with_reducible refine Lw.below_alloc ?_ _) | (with_reducible refine Below.drew ?_) | (with_reducible refine below_drewN ?_ _) | (with_reducible refine Below.setCell ?_ ?_ _) | go_size))) hb2 (Nat.le_refl _)); have HQ := Lib.hid hq1; have HF : Hid (∀ k, Gq k → w.heap.size ≤ k) := Lib.hid (fun k hk => Nat.le_trans (Below.size (show Below w.heap.size w _ from (by repeat' (first | (with_reducible exact Below.refl _ _) | (with_reducible assumption) | (with_reducible refine below_over ?_ _ _) | (with_reducible refine Lw.below_alloc ?_ _) | (with_reducible refine Below.drew ?_) | (with_reducible refine below_drewN ?_ _) | (with_reducible refine Below.setCell ?_ ?_ _) | go_size)))) (hq2 k hk)); have hbw2 := HB2.out; clear hq1 hq2 hb2))
  all_goals go_wp2
  all_goals go_ret
  have hgl := fun k (hk : Gq k) => (pgT gq Gq _ _ _).lt _ HQ.out k hk
  have hn := heap_alloc_new w2 (.cells #[.pointer (some gq), .int .i64 c.bt, .int .i64 c.rw, .int .i64 c.wd, .int .i64 c.md, .int .u64 c.sd, .int .i64 l] 117)
  have hs := HB2.out.size
  refine ⟨⟨w2.heap.size, 0, none⟩, fun k => k = w2.heap.size ∨ Gq k, rfl, ⟨HR.out.1, HR.out.2.1, HR.out.2.2.1, HR.out.2.2.2.1, HR.out.2.2.2.2.1, HR.out.2.2.2.2.2.1, HR.out.2.2.2.2.2.2, _, gq, Gq, rfl, hn, pg_alloc HQ.out _, fun hk => by have := hgl _ hk; omega, rfl⟩, fun k hk => ?_, ?_⟩
  · rcases hk with rfl | hk
    · exact hs
    · exact HF.out k hk
  · exact HB2.out.alloc hs _
set_option maxRecDepth 100000 in
set_option maxHeartbeats 4000000 in
theorem ealike_yes (p : Addr) (F : Nat → Prop) (c : Cfg) (l : Int) (L : List Int) (q : Addr) (G : Nat → Prop) (M : List Int) (w : World) (h : EX w p F c l L) (g : EX w q G c l M) :
    Calls Tryz.prog 103 #[.pointer (some p), .pointer (some q)] w fun e w' => e = .returned (.bool true) ∧ Below w.heap.size w w' := by
  obtain ⟨hr, hok, hl0, hl1, hlk, hn1, hn8, b, gp, G, rfl, hb, hg, hGb, rfl⟩ := h
  obtain ⟨hr2, hok2, gl0, gl1, glk, gn1, gn8, b2, gp2, G2, rfl, hb2, hg2, hGb2, rfl⟩ := g
  have c1 := grd_cell hb 1 (v := .int .i64 c.bt) rfl
  have c2 := grd_cell hb 2 (v := .int .i64 c.rw) rfl
  have c3 := grd_cell hb 3 (v := .int .i64 c.wd) rfl
  have c4 := grd_cell hb 4 (v := .int .i64 c.md) rfl
  have c5 := grd_cell hb 5 (v := .int .u64 c.sd) rfl
  have c6 := grd_cell hb 6 (v := .int .i64 l) rfl
  have q1 := grd_cell hb2 1 (v := .int .i64 c.bt) rfl
  have q2 := grd_cell hb2 2 (v := .int .i64 c.rw) rfl
  have q3 := grd_cell hb2 3 (v := .int .i64 c.wd) rfl
  have q4 := grd_cell hb2 4 (v := .int .i64 c.md) rfl
  have q5 := grd_cell hb2 5 (v := .int .u64 c.sd) rfl
  have q6 := grd_cell hb2 6 (v := .int .i64 l) rfl
  clear hb hg hb2 hg2
  go_enter Tryz.func103, Tryz.ntmps103
  go_wp2
  go_quiet (fail)
  all_goals go_wp2
  all_goals go_ret
  all_goals exact ⟨rfl, (by repeat' (first | (with_reducible exact Below.refl _ _) | (with_reducible assumption) | (with_reducible refine below_over ?_ _ _) | (with_reducible refine Lw.below_alloc ?_ _) | (with_reducible refine Below.drew ?_) | (with_reducible refine below_drewN ?_ _) | (with_reducible refine Below.setCell ?_ ?_ _) | go_size))⟩
set_option maxRecDepth 100000 in
set_option maxHeartbeats 4000000 in
theorem ealike_n0 (p : Addr) (F : Nat → Prop) (c : Cfg) (l : Int) (L : List Int) (q : Addr) (G : Nat → Prop) (c' : Cfg) (l' : Int) (M : List Int) (w : World) (h : EX w p F c l L) (g : EX w q G c' l' M)  (e0 : (c'.bt == c.bt) = false) :
    Calls Tryz.prog 103 #[.pointer (some p), .pointer (some q)] w fun e w' => e = .returned (.bool false) ∧ Below w.heap.size w w' := by
  obtain ⟨hr, hok, hl0, hl1, hlk, hn1, hn8, b, gp, G, rfl, hb, hg, hGb, rfl⟩ := h
  obtain ⟨hr2, hok2, gl0, gl1, glk, gn1, gn8, b2, gp2, G2, rfl, hb2, hg2, hGb2, rfl⟩ := g
  have c1 := grd_cell hb 1 (v := .int .i64 c.bt) rfl
  have c2 := grd_cell hb 2 (v := .int .i64 c.rw) rfl
  have c3 := grd_cell hb 3 (v := .int .i64 c.wd) rfl
  have c4 := grd_cell hb 4 (v := .int .i64 c.md) rfl
  have c5 := grd_cell hb 5 (v := .int .u64 c.sd) rfl
  have c6 := grd_cell hb 6 (v := .int .i64 l) rfl
  have q1 := grd_cell hb2 1 (v := .int .i64 c'.bt) rfl
  have q2 := grd_cell hb2 2 (v := .int .i64 c'.rw) rfl
  have q3 := grd_cell hb2 3 (v := .int .i64 c'.wd) rfl
  have q4 := grd_cell hb2 4 (v := .int .i64 c'.md) rfl
  have q5 := grd_cell hb2 5 (v := .int .u64 c'.sd) rfl
  have q6 := grd_cell hb2 6 (v := .int .i64 l') rfl
  clear hb hg hb2 hg2 hlk glk hn8 gn8 hn1 gn1
  go_enter Tryz.func103, Tryz.ntmps103
  go_wp2
  go_quiet (fail)
  all_goals go_wp2
  all_goals go_ret
  all_goals exact ⟨rfl, (by repeat' (first | (with_reducible exact Below.refl _ _) | (with_reducible assumption) | (with_reducible refine below_over ?_ _ _) | (with_reducible refine Lw.below_alloc ?_ _) | (with_reducible refine Below.drew ?_) | (with_reducible refine below_drewN ?_ _) | (with_reducible refine Below.setCell ?_ ?_ _) | go_size))⟩
set_option maxRecDepth 100000 in
set_option maxHeartbeats 4000000 in
theorem ealike_n1 (p : Addr) (F : Nat → Prop) (c : Cfg) (l : Int) (L : List Int) (q : Addr) (G : Nat → Prop) (c' : Cfg) (l' : Int) (M : List Int) (w : World) (h : EX w p F c l L) (g : EX w q G c' l' M) (e0 : c'.bt = c.bt) (e1 : (c'.rw == c.rw) = false) :
    Calls Tryz.prog 103 #[.pointer (some p), .pointer (some q)] w fun e w' => e = .returned (.bool false) ∧ Below w.heap.size w w' := by
  obtain ⟨hr, hok, hl0, hl1, hlk, hn1, hn8, b, gp, G, rfl, hb, hg, hGb, rfl⟩ := h
  obtain ⟨hr2, hok2, gl0, gl1, glk, gn1, gn8, b2, gp2, G2, rfl, hb2, hg2, hGb2, rfl⟩ := g
  have c1 := grd_cell hb 1 (v := .int .i64 c.bt) rfl
  have c2 := grd_cell hb 2 (v := .int .i64 c.rw) rfl
  have c3 := grd_cell hb 3 (v := .int .i64 c.wd) rfl
  have c4 := grd_cell hb 4 (v := .int .i64 c.md) rfl
  have c5 := grd_cell hb 5 (v := .int .u64 c.sd) rfl
  have c6 := grd_cell hb 6 (v := .int .i64 l) rfl
  have q1 := grd_cell hb2 1 (v := .int .i64 c'.bt) rfl
  have q2 := grd_cell hb2 2 (v := .int .i64 c'.rw) rfl
  have q3 := grd_cell hb2 3 (v := .int .i64 c'.wd) rfl
  have q4 := grd_cell hb2 4 (v := .int .i64 c'.md) rfl
  have q5 := grd_cell hb2 5 (v := .int .u64 c'.sd) rfl
  have q6 := grd_cell hb2 6 (v := .int .i64 l') rfl
  clear hb hg hb2 hg2 hlk glk hn8 gn8 hn1 gn1
  go_enter Tryz.func103, Tryz.ntmps103
  go_wp2
  go_quiet (fail)
  all_goals go_wp2
  all_goals go_ret
  all_goals exact ⟨rfl, (by repeat' (first | (with_reducible exact Below.refl _ _) | (with_reducible assumption) | (with_reducible refine below_over ?_ _ _) | (with_reducible refine Lw.below_alloc ?_ _) | (with_reducible refine Below.drew ?_) | (with_reducible refine below_drewN ?_ _) | (with_reducible refine Below.setCell ?_ ?_ _) | go_size))⟩
set_option maxRecDepth 100000 in
set_option maxHeartbeats 4000000 in
theorem ealike_n2 (p : Addr) (F : Nat → Prop) (c : Cfg) (l : Int) (L : List Int) (q : Addr) (G : Nat → Prop) (c' : Cfg) (l' : Int) (M : List Int) (w : World) (h : EX w p F c l L) (g : EX w q G c' l' M) (e0 : c'.bt = c.bt) (e1 : c'.rw = c.rw) (e2 : (c'.wd == c.wd) = false) :
    Calls Tryz.prog 103 #[.pointer (some p), .pointer (some q)] w fun e w' => e = .returned (.bool false) ∧ Below w.heap.size w w' := by
  obtain ⟨hr, hok, hl0, hl1, hlk, hn1, hn8, b, gp, G, rfl, hb, hg, hGb, rfl⟩ := h
  obtain ⟨hr2, hok2, gl0, gl1, glk, gn1, gn8, b2, gp2, G2, rfl, hb2, hg2, hGb2, rfl⟩ := g
  have c1 := grd_cell hb 1 (v := .int .i64 c.bt) rfl
  have c2 := grd_cell hb 2 (v := .int .i64 c.rw) rfl
  have c3 := grd_cell hb 3 (v := .int .i64 c.wd) rfl
  have c4 := grd_cell hb 4 (v := .int .i64 c.md) rfl
  have c5 := grd_cell hb 5 (v := .int .u64 c.sd) rfl
  have c6 := grd_cell hb 6 (v := .int .i64 l) rfl
  have q1 := grd_cell hb2 1 (v := .int .i64 c'.bt) rfl
  have q2 := grd_cell hb2 2 (v := .int .i64 c'.rw) rfl
  have q3 := grd_cell hb2 3 (v := .int .i64 c'.wd) rfl
  have q4 := grd_cell hb2 4 (v := .int .i64 c'.md) rfl
  have q5 := grd_cell hb2 5 (v := .int .u64 c'.sd) rfl
  have q6 := grd_cell hb2 6 (v := .int .i64 l') rfl
  clear hb hg hb2 hg2 hlk glk hn8 gn8 hn1 gn1
  go_enter Tryz.func103, Tryz.ntmps103
  go_wp2
  go_quiet (fail)
  all_goals go_wp2
  all_goals go_ret
  all_goals exact ⟨rfl, (by repeat' (first | (with_reducible exact Below.refl _ _) | (with_reducible assumption) | (with_reducible refine below_over ?_ _ _) | (with_reducible refine Lw.below_alloc ?_ _) | (with_reducible refine Below.drew ?_) | (with_reducible refine below_drewN ?_ _) | (with_reducible refine Below.setCell ?_ ?_ _) | go_size))⟩
set_option maxRecDepth 100000 in
set_option maxHeartbeats 4000000 in
theorem ealike_n3 (p : Addr) (F : Nat → Prop) (c : Cfg) (l : Int) (L : List Int) (q : Addr) (G : Nat → Prop) (c' : Cfg) (l' : Int) (M : List Int) (w : World) (h : EX w p F c l L) (g : EX w q G c' l' M) (e0 : c'.bt = c.bt) (e1 : c'.rw = c.rw) (e2 : c'.wd = c.wd) (e3 : (c'.md == c.md) = false) :
    Calls Tryz.prog 103 #[.pointer (some p), .pointer (some q)] w fun e w' => e = .returned (.bool false) ∧ Below w.heap.size w w' := by
  obtain ⟨hr, hok, hl0, hl1, hlk, hn1, hn8, b, gp, G, rfl, hb, hg, hGb, rfl⟩ := h
  obtain ⟨hr2, hok2, gl0, gl1, glk, gn1, gn8, b2, gp2, G2, rfl, hb2, hg2, hGb2, rfl⟩ := g
  have c1 := grd_cell hb 1 (v := .int .i64 c.bt) rfl
  have c2 := grd_cell hb 2 (v := .int .i64 c.rw) rfl
  have c3 := grd_cell hb 3 (v := .int .i64 c.wd) rfl
  have c4 := grd_cell hb 4 (v := .int .i64 c.md) rfl
  have c5 := grd_cell hb 5 (v := .int .u64 c.sd) rfl
  have c6 := grd_cell hb 6 (v := .int .i64 l) rfl
  have q1 := grd_cell hb2 1 (v := .int .i64 c'.bt) rfl
  have q2 := grd_cell hb2 2 (v := .int .i64 c'.rw) rfl
  have q3 := grd_cell hb2 3 (v := .int .i64 c'.wd) rfl
  have q4 := grd_cell hb2 4 (v := .int .i64 c'.md) rfl
  have q5 := grd_cell hb2 5 (v := .int .u64 c'.sd) rfl
  have q6 := grd_cell hb2 6 (v := .int .i64 l') rfl
  clear hb hg hb2 hg2 hlk glk hn8 gn8 hn1 gn1
  go_enter Tryz.func103, Tryz.ntmps103
  go_wp2
  go_quiet (fail)
  all_goals go_wp2
  all_goals go_ret
  all_goals exact ⟨rfl, (by repeat' (first | (with_reducible exact Below.refl _ _) | (with_reducible assumption) | (with_reducible refine below_over ?_ _ _) | (with_reducible refine Lw.below_alloc ?_ _) | (with_reducible refine Below.drew ?_) | (with_reducible refine below_drewN ?_ _) | (with_reducible refine Below.setCell ?_ ?_ _) | go_size))⟩
set_option maxRecDepth 100000 in
set_option maxHeartbeats 4000000 in
theorem ealike_n4 (p : Addr) (F : Nat → Prop) (c : Cfg) (l : Int) (L : List Int) (q : Addr) (G : Nat → Prop) (c' : Cfg) (l' : Int) (M : List Int) (w : World) (h : EX w p F c l L) (g : EX w q G c' l' M) (e0 : c'.bt = c.bt) (e1 : c'.rw = c.rw) (e2 : c'.wd = c.wd) (e3 : c'.md = c.md) (e4 : (c'.sd == c.sd) = false) :
    Calls Tryz.prog 103 #[.pointer (some p), .pointer (some q)] w fun e w' => e = .returned (.bool false) ∧ Below w.heap.size w w' := by
  obtain ⟨hr, hok, hl0, hl1, hlk, hn1, hn8, b, gp, G, rfl, hb, hg, hGb, rfl⟩ := h
  obtain ⟨hr2, hok2, gl0, gl1, glk, gn1, gn8, b2, gp2, G2, rfl, hb2, hg2, hGb2, rfl⟩ := g
  have c1 := grd_cell hb 1 (v := .int .i64 c.bt) rfl
  have c2 := grd_cell hb 2 (v := .int .i64 c.rw) rfl
  have c3 := grd_cell hb 3 (v := .int .i64 c.wd) rfl
  have c4 := grd_cell hb 4 (v := .int .i64 c.md) rfl
  have c5 := grd_cell hb 5 (v := .int .u64 c.sd) rfl
  have c6 := grd_cell hb 6 (v := .int .i64 l) rfl
  have q1 := grd_cell hb2 1 (v := .int .i64 c'.bt) rfl
  have q2 := grd_cell hb2 2 (v := .int .i64 c'.rw) rfl
  have q3 := grd_cell hb2 3 (v := .int .i64 c'.wd) rfl
  have q4 := grd_cell hb2 4 (v := .int .i64 c'.md) rfl
  have q5 := grd_cell hb2 5 (v := .int .u64 c'.sd) rfl
  have q6 := grd_cell hb2 6 (v := .int .i64 l') rfl
  clear hb hg hb2 hg2 hlk glk hn8 gn8 hn1 gn1
  go_enter Tryz.func103, Tryz.ntmps103
  go_wp2
  go_quiet (fail)
  all_goals go_wp2
  all_goals go_ret
  all_goals exact ⟨rfl, (by repeat' (first | (with_reducible exact Below.refl _ _) | (with_reducible assumption) | (with_reducible refine below_over ?_ _ _) | (with_reducible refine Lw.below_alloc ?_ _) | (with_reducible refine Below.drew ?_) | (with_reducible refine below_drewN ?_ _) | (with_reducible refine Below.setCell ?_ ?_ _) | go_size))⟩
set_option maxRecDepth 100000 in
set_option maxHeartbeats 4000000 in
theorem ealike_n5 (p : Addr) (F : Nat → Prop) (c : Cfg) (l : Int) (L : List Int) (q : Addr) (G : Nat → Prop) (c' : Cfg) (l' : Int) (M : List Int) (w : World) (h : EX w p F c l L) (g : EX w q G c' l' M) (e0 : c'.bt = c.bt) (e1 : c'.rw = c.rw) (e2 : c'.wd = c.wd) (e3 : c'.md = c.md) (e4 : c'.sd = c.sd) (e5 : (l' == l) = false) :
    Calls Tryz.prog 103 #[.pointer (some p), .pointer (some q)] w fun e w' => e = .returned (.bool false) ∧ Below w.heap.size w w' := by
  obtain ⟨hr, hok, hl0, hl1, hlk, hn1, hn8, b, gp, G, rfl, hb, hg, hGb, rfl⟩ := h
  obtain ⟨hr2, hok2, gl0, gl1, glk, gn1, gn8, b2, gp2, G2, rfl, hb2, hg2, hGb2, rfl⟩ := g
  have c1 := grd_cell hb 1 (v := .int .i64 c.bt) rfl
  have c2 := grd_cell hb 2 (v := .int .i64 c.rw) rfl
  have c3 := grd_cell hb 3 (v := .int .i64 c.wd) rfl
  have c4 := grd_cell hb 4 (v := .int .i64 c.md) rfl
  have c5 := grd_cell hb 5 (v := .int .u64 c.sd) rfl
  have c6 := grd_cell hb 6 (v := .int .i64 l) rfl
  have q1 := grd_cell hb2 1 (v := .int .i64 c'.bt) rfl
  have q2 := grd_cell hb2 2 (v := .int .i64 c'.rw) rfl
  have q3 := grd_cell hb2 3 (v := .int .i64 c'.wd) rfl
  have q4 := grd_cell hb2 4 (v := .int .i64 c'.md) rfl
  have q5 := grd_cell hb2 5 (v := .int .u64 c'.sd) rfl
  have q6 := grd_cell hb2 6 (v := .int .i64 l') rfl
  clear hb hg hb2 hg2 hlk glk hn8 gn8 hn1 gn1
  go_enter Tryz.func103, Tryz.ntmps103
  go_wp2
  go_quiet (fail)
  all_goals go_wp2
  all_goals go_ret
  all_goals exact ⟨rfl, (by repeat' (first | (with_reducible exact Below.refl _ _) | (with_reducible assumption) | (with_reducible refine below_over ?_ _ _) | (with_reducible refine Lw.below_alloc ?_ _) | (with_reducible refine Below.drew ?_) | (with_reducible refine below_drewN ?_ _) | (with_reducible refine Below.setCell ?_ ?_ _) | go_size))⟩
theorem ealike_any (p : Addr) (F : Nat → Prop) (c : Cfg) (l : Int) (L : List Int) (q : Addr) (G : Nat → Prop) (c' : Cfg) (l' : Int) (M : List Int) (w : World) (h : EX w p F c l L) (g : EX w q G c' l' M) :
    Calls Tryz.prog 103 #[.pointer (some p), .pointer (some q)] w fun e w' => e = .returned (.bool (decide (cfgE c c' = true ∧ l = l'))) ∧ Below w.heap.size w w' := by
  have no : ¬ (c.bt = c'.bt ∧ c.rw = c'.rw ∧ c.wd = c'.wd ∧ c.md = c'.md ∧ c.sd = c'.sd ∧ l = l') → decide (cfgE c c' = true ∧ l = l') = false := by
    intro hn
    refine decide_eq_false ?_
    rintro ⟨h1, h2⟩
    have h3 := of_decide_eq_true h1
    exact hn ⟨h3.1, h3.2.1, h3.2.2.1, h3.2.2.2.1, h3.2.2.2.2, h2⟩
  have bf : ∀ {a b : Int}, ¬ a = b → (a == b) = false := fun h => by simp [h]
  by_cases e0 : c'.bt = c.bt
  · by_cases e1 : c'.rw = c.rw
    · by_cases e2 : c'.wd = c.wd
      · by_cases e3 : c'.md = c.md
        · by_cases e4 : c'.sd = c.sd
          · by_cases e5 : l' = l
            · have e : c' = c := by cases c; cases c'; simp_all
              subst e e5
              have he : decide (cfgE c' c' = true ∧ l' = l') = true := by unfold cfgE; simp
              rw [he]
              exact ealike_yes p F c' l' L q G M w h g
            · rw [no (fun h => e5 h.2.2.2.2.2.symm)]
              exact ealike_n5 p F c l L q G c' l' M w h g e0 e1 e2 e3 e4 (bf e5)
          · rw [no (fun h => e4 h.2.2.2.2.1.symm)]
            exact ealike_n4 p F c l L q G c' l' M w h g e0 e1 e2 e3 (bf e4)
        · rw [no (fun h => e3 h.2.2.2.1.symm)]
          exact ealike_n3 p F c l L q G c' l' M w h g e0 e1 e2 (bf e3)
      · rw [no (fun h => e2 h.2.2.1.symm)]
        exact ealike_n2 p F c l L q G c' l' M w h g e0 e1 (bf e2)
    · rw [no (fun h => e1 h.2.1.symm)]
      exact ealike_n1 p F c l L q G c' l' M w h g e0 (bf e1)
  · rw [no (fun h => e0 h.1.symm)]
    exact ealike_n0 p F c l L q G c' l' M w h g (bf e0)
theorem ex_apart {w : World} {gp : Addr} {G : Nat → Prop} {m n : Nat} {L : List (List Int)} (h : PG w gp G m n L) (hmn : 0 < m * n) {b : Nat} {x : Addr} {vs : List Value} (hv : 3 ≤ vs.length) (hb : w.heap[b]? = some (.cells (Value.pointer (some x) :: vs).toArray 117 (0, 0))) : ¬ G b := by
  obtain ⟨hd, b1, g1, cap, rfl, h1, hm, -, -, -, rfl⟩ := h
  rintro (rfl | rfl)
  · rw [h1] at hb
    injection hb with hb
    injection hb with hb
    have := congrArg Array.size hb
    simp at this
    omega
  · obtain ⟨us, e, h2, h3⟩ := hm
    rw [h2] at hb
    injection hb with hb
    injection hb with hb
    have hl : 0 < L.flatten.length := by rw [flat_dims hd]; exact hmn
    have h4 := h3 0 _ (List.getElem?_eq_getElem hl)
    rw [hb] at h4
    simp at h4
/-- s: 1 for Merge, -1 for Subtract. -/
def mgC (s : Int) (c d : Cfg) (l l' : Int) (L M : List Int) : Int :=
  if cfgE c d = true ∧ l = l' then (if s = -1 ∧ c.md = 2 then 3 else exJ s L M) else 5
def mgR (s : Int) (c d : Cfg) (l l' : Int) (L M : List Int) : List Int :=
  if cfgE c d = true ∧ l = l' then (if s = -1 ∧ c.md = 2 then L else exM s L M) else L
set_option maxRecDepth 100000 in
set_option maxHeartbeats 4000000 in
theorem ejoin_no (p : Addr) (F : Nat → Prop) (c : Cfg) (l : Int) (L : List Int) (B : Bool) (v : Value) (q : Addr) (G : Nat → Prop) (c' : Cfg) (l' : Int) (M : List Int) (w : World) (h : EX w p F c l L) (g : EX w q G c' l' M) (hn : ¬ (cfgE c c' = true ∧ l = l')) :
    Calls Tryz.prog 69 #[.pointer (some p), .pointer (some q), .bool B, v] w fun e w' => e = .returned (.int .i64 5) ∧ Below w.heap.size w w' := by
  have CA := Lib.hid (ealike_any p F c l L q G c' l' M w h g)
  rw [decide_eq_false hn] at CA
  clear h g hn
  go_enter Tryz.func69, Tryz.ntmps69
  go_wp2_with (go_at_call 103; (with_reducible refine (CA.out).mono ?_); rintro e w1 ⟨rfl, hb9⟩; have HB1 := Lib.hid hb9; clear hb9)
  go_ret
  exact ⟨rfl, HB1.out⟩
set_option maxRecDepth 100000 in
set_option maxHeartbeats 4000000 in
theorem ejoin_mode (p : Addr) (F : Nat → Prop) (c : Cfg) (l : Int) (L : List Int) (v : Value) (q : Addr) (G : Nat → Prop) (M : List Int) (w : World) (h : EX w p F c l L) (g : EX w q G c l M) :
    Calls Tryz.prog 69 #[.pointer (some p), .pointer (some q), .bool false, v] w fun e w' => e = .returned (.int .i64 3) ∧ Below w.heap.size w w' := by
  have CA := Lib.hid (ealike_yes p F c l L q G M w h g)
  clear h g
  go_enter Tryz.func69, Tryz.ntmps69
  go_wp2_with (go_at_call 103; (with_reducible refine (CA.out).mono ?_); rintro e w1 ⟨rfl, hb9⟩; have HB1 := Lib.hid hb9; clear hb9)
  go_ret
  exact ⟨rfl, HB1.out⟩
set_option maxRecDepth 100000 in
set_option maxHeartbeats 4000000 in
theorem ejoin_plus (p : Addr) (F : Nat → Prop) (c : Cfg) (l : Int) (L : List Int) (q : Addr) (G' : Nat → Prop) (M : List Int) (w : World) (h : EX w p F c l L) (g : EX w q G' c l M) :
    Calls Tryz.prog 69 #[.pointer (some p), .pointer (some q), .bool true, .func (.func 68) #[] #[]] w fun e w' => e = .returned (.int .i64 (exJ (1) L M)) ∧ ∃ F', EX w' p F' c l (exM (1) L M) ∧ Kept F w w' ∧ (∀ k, F' k → F k ∨ w.heap.size ≤ k) := by
  have CA := Lib.hid (ealike_yes p F c l L q G' M w h g)
  obtain ⟨hr, hok, hl0, hl1, hlk, hn1, hn8, b, gp, G, rfl, hb, hg, hGb, rfl⟩ := h
  obtain ⟨hr2, hok2, gl0, gl1, glk, gn1, gn8, b2, gp2, G2, rfl, hb2, hg2, hGb2, rfl⟩ := g
  have hML : M.length = L.length := by omega
  have hbl := size_of_heap hb
  have hbl2 := size_of_heap hb2
  have c0w := grd_cell hb 0 (v := .pointer (some gp)) rfl
  have c1w := grd_cell hb2 0 (v := .pointer (some gp2)) rfl
  have hap : ¬ G b2 := ex_apart hg (by omega) (vs := [_, _, _, _, _, _]) (by simp) hb2
  have TL : Hid (∀ w', Below w.heap.size w w' → Calls Tryz.prog 68 #[.pointer (some gp), .pointer (some gp2)] w' fun e w2 => e = .returned (.int .i64 (exJ (1) L M)) ∧ ∃ G6, PG w2 gp G6 1 L.length [exM (1) L M] ∧ Kept G w w2 ∧ (∀ q, G6 q → G q ∨ w.heap.size ≤ q)) := Lib.hid (fun w' hb2 => (plus_all gp gp2 G G2 _ _ _ _ [L] [M] w' (pg_up hg hb2) (pg_up hg2 hb2)).mono (fun e w2 ⟨e1, G', h1, h2, h3⟩ => ⟨by rw [hML, (join_one (1) L.length L M).1] at e1; exact e1, G', by rw [hML, (join_one (1) L.length L M).2] at h1; exact h1, (Kept.of_below hb2).trans h2 (fun q hq h => h), fun q hq => (h3 q hq).elim .inl (fun h => .inr (Nat.le_trans hb2.size h))⟩))
  have HT : Hid (∀ w' G', PG w' gp G' 1 L.length [exM (1) L M] → Kept G w w' → (∀ k, G' k → G k ∨ w.heap.size ≤ k) → ∃ F', EX w' ⟨b, 0, none⟩ F' c l (exM (1) L M) ∧ Kept (fun k => k = b ∨ G k) w w' ∧ (∀ q, F' q → (q = b ∨ G q) ∨ w.heap.size ≤ q)) := Lib.hid (fun w' G' h1 h2 h3 => ex_turn hr hok hl0 hl1 hlk hn1 hn8 hb hGb (exM_len hML) h1 h2 h3)
  obtain ⟨V, hV⟩ : ∃ V, exJ (1) L M = V := ⟨_, rfl⟩
  obtain ⟨R, hR⟩ : ∃ R, exM (1) L M = R := ⟨_, rfl⟩
  rw [hV, hR] at TL
  rw [hR] at HT
  rw [hV, hR]
  clear hb hg hb2 hg2 hV hR hlk glk hML hn1 hn8 gn1 gn8
  go_enter Tryz.func69, Tryz.ntmps69
  go_wp2_with (go_at_call 103; (with_reducible refine (CA.out).mono ?_); rintro e w1 ⟨rfl, hb9⟩; have HB1 := Lib.hid hb9; clear hb9)
  have c0 := cell_up c0w HB1.out
  have c1 := cell_up c1w HB1.out
  have TL1 : Hid (∀ w', Below w1.heap.size w1 w' → _) := Lib.hid (fun w' hb2 => TL.out w' (below_call HB1.out hb2 (Nat.le_refl _)))
  go_region_held3 (fun w' => w'.cell? ⟨b, 0, none⟩ = some (.pointer (some gp)) ∧ w'.cell? ⟨b2, 0, none⟩ = some (.pointer (some gp2))) (first | (refine ⟨?_, ?_⟩ <;> (first | (with_reducible assumption) | (with_reducible refine cell_up c0 ?_) | (with_reducible refine cell_up c1 ?_)) <;> (repeat' (first | (with_reducible exact Below.refl _ _) | (with_reducible assumption) | (with_reducible refine below_over ?_ _ _) | (with_reducible refine Lw.below_alloc ?_ _) | (with_reducible refine Below.drew ?_) | (with_reducible refine below_drewN ?_ _) | (with_reducible refine Below.setCell ?_ ?_ _) | go_size)))) (first
    | (go_at_call 68; (with_reducible refine (TL1.out _ (by repeat' (first | (with_reducible exact Below.refl _ _) | (with_reducible assumption) | (with_reducible refine below_over ?_ _ _) | (with_reducible refine Lw.below_alloc ?_ _) | (with_reducible refine Below.drew ?_) | (with_reducible refine below_drewN ?_ _) | (with_reducible refine Below.setCell ?_ ?_ _) | go_size))).mono ?_); rintro e w6 ⟨rfl, G6, hp6, hk6, hf6⟩; have HP6 := Lib.hid hp6; have HK6 := Lib.hid hk6; have HF6 := Lib.hid hf6; have x0 : w6.cell? ⟨b, 0, none⟩ = some (.pointer (some gp)) := hk6.cell c0w hGb; have x1 : w6.cell? ⟨b2, 0, none⟩ = some (.pointer (some gp2)) := hk6.cell c1w hap; clear hp6 hk6 hf6))
  all_goals go_wp2
  all_goals go_ret
  all_goals exact ⟨rfl, HT.out _ _ HP6.out HK6.out HF6.out⟩
set_option maxRecDepth 100000 in
set_option maxHeartbeats 4000000 in
theorem ejoin_minus (p : Addr) (F : Nat → Prop) (c : Cfg) (l : Int) (L : List Int) (q : Addr) (G' : Nat → Prop) (M : List Int) (w : World) (h : EX w p F c l L) (g : EX w q G' c l M) :
    Calls Tryz.prog 69 #[.pointer (some p), .pointer (some q), .bool true, .func (.func 76) #[] #[]] w fun e w' => e = .returned (.int .i64 (exJ (-1) L M)) ∧ ∃ F', EX w' p F' c l (exM (-1) L M) ∧ Kept F w w' ∧ (∀ k, F' k → F k ∨ w.heap.size ≤ k) := by
  have CA := Lib.hid (ealike_yes p F c l L q G' M w h g)
  obtain ⟨hr, hok, hl0, hl1, hlk, hn1, hn8, b, gp, G, rfl, hb, hg, hGb, rfl⟩ := h
  obtain ⟨hr2, hok2, gl0, gl1, glk, gn1, gn8, b2, gp2, G2, rfl, hb2, hg2, hGb2, rfl⟩ := g
  have hML : M.length = L.length := by omega
  have hbl := size_of_heap hb
  have hbl2 := size_of_heap hb2
  have c0w := grd_cell hb 0 (v := .pointer (some gp)) rfl
  have c1w := grd_cell hb2 0 (v := .pointer (some gp2)) rfl
  have hap : ¬ G b2 := ex_apart hg (by omega) (vs := [_, _, _, _, _, _]) (by simp) hb2
  have TL : Hid (∀ w', Below w.heap.size w w' → Calls Tryz.prog 76 #[.pointer (some gp), .pointer (some gp2)] w' fun e w2 => e = .returned (.int .i64 (exJ (-1) L M)) ∧ ∃ G6, PG w2 gp G6 1 L.length [exM (-1) L M] ∧ Kept G w w2 ∧ (∀ q, G6 q → G q ∨ w.heap.size ≤ q)) := Lib.hid (fun w' hb2 => (minus_all gp gp2 G G2 _ _ _ _ [L] [M] w' (pg_up hg hb2) (pg_up hg2 hb2)).mono (fun e w2 ⟨e1, G', h1, h2, h3⟩ => ⟨by rw [hML, (join_one (-1) L.length L M).1] at e1; exact e1, G', by rw [hML, (join_one (-1) L.length L M).2] at h1; exact h1, (Kept.of_below hb2).trans h2 (fun q hq h => h), fun q hq => (h3 q hq).elim .inl (fun h => .inr (Nat.le_trans hb2.size h))⟩))
  have HT : Hid (∀ w' G', PG w' gp G' 1 L.length [exM (-1) L M] → Kept G w w' → (∀ k, G' k → G k ∨ w.heap.size ≤ k) → ∃ F', EX w' ⟨b, 0, none⟩ F' c l (exM (-1) L M) ∧ Kept (fun k => k = b ∨ G k) w w' ∧ (∀ q, F' q → (q = b ∨ G q) ∨ w.heap.size ≤ q)) := Lib.hid (fun w' G' h1 h2 h3 => ex_turn hr hok hl0 hl1 hlk hn1 hn8 hb hGb (exM_len hML) h1 h2 h3)
  obtain ⟨V, hV⟩ : ∃ V, exJ (-1) L M = V := ⟨_, rfl⟩
  obtain ⟨R, hR⟩ : ∃ R, exM (-1) L M = R := ⟨_, rfl⟩
  rw [hV, hR] at TL
  rw [hR] at HT
  rw [hV, hR]
  clear hb hg hb2 hg2 hV hR hlk glk hML hn1 hn8 gn1 gn8
  go_enter Tryz.func69, Tryz.ntmps69
  go_wp2_with (go_at_call 103; (with_reducible refine (CA.out).mono ?_); rintro e w1 ⟨rfl, hb9⟩; have HB1 := Lib.hid hb9; clear hb9)
  have c0 := cell_up c0w HB1.out
  have c1 := cell_up c1w HB1.out
  have TL1 : Hid (∀ w', Below w1.heap.size w1 w' → _) := Lib.hid (fun w' hb2 => TL.out w' (below_call HB1.out hb2 (Nat.le_refl _)))
  go_region_held3 (fun w' => w'.cell? ⟨b, 0, none⟩ = some (.pointer (some gp)) ∧ w'.cell? ⟨b2, 0, none⟩ = some (.pointer (some gp2))) (first | (refine ⟨?_, ?_⟩ <;> (first | (with_reducible assumption) | (with_reducible refine cell_up c0 ?_) | (with_reducible refine cell_up c1 ?_)) <;> (repeat' (first | (with_reducible exact Below.refl _ _) | (with_reducible assumption) | (with_reducible refine below_over ?_ _ _) | (with_reducible refine Lw.below_alloc ?_ _) | (with_reducible refine Below.drew ?_) | (with_reducible refine below_drewN ?_ _) | (with_reducible refine Below.setCell ?_ ?_ _) | go_size)))) (first
    | (go_at_call 76; (with_reducible refine (TL1.out _ (by repeat' (first | (with_reducible exact Below.refl _ _) | (with_reducible assumption) | (with_reducible refine below_over ?_ _ _) | (with_reducible refine Lw.below_alloc ?_ _) | (with_reducible refine Below.drew ?_) | (with_reducible refine below_drewN ?_ _) | (with_reducible refine Below.setCell ?_ ?_ _) | go_size))).mono ?_); rintro e w6 ⟨rfl, G6, hp6, hk6, hf6⟩; have HP6 := Lib.hid hp6; have HK6 := Lib.hid hk6; have HF6 := Lib.hid hf6; have x0 : w6.cell? ⟨b, 0, none⟩ = some (.pointer (some gp)) := hk6.cell c0w hGb; have x1 : w6.cell? ⟨b2, 0, none⟩ = some (.pointer (some gp2)) := hk6.cell c1w hap; clear hp6 hk6 hf6))
  all_goals go_wp2
  all_goals go_ret
  all_goals exact ⟨rfl, HT.out _ _ HP6.out HK6.out HF6.out⟩
set_option maxRecDepth 100000 in
set_option maxHeartbeats 4000000 in
theorem emerge_no (p : Addr) (F : Nat → Prop) (c : Cfg) (l : Int) (L : List Int) (q : Addr) (G : Nat → Prop) (c' : Cfg) (l' : Int) (M : List Int) (w : World) (h : EX w p F c l L) (g : EX w q G c' l' M) (hn : ¬ (cfgE c c' = true ∧ l = l')) :
    Calls Tryz.prog 44 #[.pointer (some p), .pointer (some q)] w fun e w' => e = .returned (.int .i64 5) ∧ Below w.heap.size w w' := by
  have CJ := Lib.hid (ejoin_no p F c l L true (.func (.func 68) #[] #[]) q G c' l' M w h g hn)
  clear h g hn
  go_enter Tryz.func44, Tryz.ntmps44
  go_wp2_with (go_at_call 69; (with_reducible refine (CJ.out).mono ?_); rintro e w2 ⟨rfl, hb9⟩; have HB2 := Lib.hid hb9; clear hb9)
  go_ret
  exact ⟨rfl, HB2.out⟩
set_option maxRecDepth 100000 in
set_option maxHeartbeats 4000000 in
theorem emerge_yes (p : Addr) (F : Nat → Prop) (c : Cfg) (l : Int) (L : List Int) (q : Addr) (G' : Nat → Prop) (M : List Int) (w : World) (h : EX w p F c l L) (g : EX w q G' c l M) :
    Calls Tryz.prog 44 #[.pointer (some p), .pointer (some q)] w fun e w' => e = .returned (.int .i64 (exJ 1 L M)) ∧ ∃ F', EX w' p F' c l (exM 1 L M) ∧ Kept F w w' ∧ (∀ k, F' k → F k ∨ w.heap.size ≤ k) := by
  have CJ := Lib.hid (ejoin_plus p F c l L q G' M w h g)
  clear h g
  go_enter Tryz.func44, Tryz.ntmps44
  go_wp2_with (go_at_call 69; (with_reducible refine (CJ.out).mono ?_); rintro e w6 ⟨rfl, F6, hp6, hk6, hf6⟩; have HP6 := Lib.hid hp6; have HK6 := Lib.hid hk6; have HF6 := Lib.hid hf6; clear hp6 hk6 hf6)
  go_ret
  exact ⟨rfl, F6, HP6.out, HK6.out, HF6.out⟩
theorem emerge_any (p : Addr) (F : Nat → Prop) (c : Cfg) (l : Int) (L : List Int) (q : Addr) (G : Nat → Prop) (c' : Cfg) (l' : Int) (M : List Int) (w : World) (h : EX w p F c l L) (g : EX w q G c' l' M) :
    Calls Tryz.prog 44 #[.pointer (some p), .pointer (some q)] w fun e w' => e = .returned (.int .i64 (mgC 1 c c' l l' L M)) ∧ ∃ F', EX w' p F' c l (mgR 1 c c' l l' L M) ∧ Kept F w w' ∧ (∀ k, F' k → F k ∨ w.heap.size ≤ k) := by
  unfold mgC mgR
  by_cases hn : cfgE c c' = true ∧ l = l'
  · rw [if_pos hn, if_pos hn]
    have hc := of_decide_eq_true hn.1
    have e : c = c' := by cases c; cases c'; simp_all
    have e2 := hn.2
    subst e e2
    rw [if_neg (by omega), if_neg (by omega)]
    exact emerge_yes p F c l L q G M w h g
  · rw [if_neg hn, if_neg hn]
    exact (emerge_no p F c l L q G c' l' M w h g hn).mono (fun e w' h2 => ⟨h2.1, F, h.up h2.2, Kept.of_below h2.2, fun q hq => .inl hq⟩)
set_option maxRecDepth 100000 in
set_option maxHeartbeats 4000000 in
theorem esub_no (p : Addr) (F : Nat → Prop) (c : Cfg) (l : Int) (L : List Int) (q : Addr) (G : Nat → Prop) (c' : Cfg) (l' : Int) (M : List Int) (w : World) (h : EX w p F c l L) (g : EX w q G c' l' M) (hn : ¬ (cfgE c c' = true ∧ l = l')) :
    Calls Tryz.prog 48 #[.pointer (some p), .pointer (some q)] w fun e w' => e = .returned (.int .i64 5) ∧ Below w.heap.size w w' := by
  have FW := Lib.hid (efalls_any p F c l L w h)
  have CJ : Hid (∀ w' B, Below w.heap.size w w' → _) := Lib.hid (fun w' B hb2 => ejoin_no p F c l L B (.func (.func 76) #[] #[]) q G c' l' M w' (h.up hb2) (g.up hb2) hn)
  clear h g hn
  go_enter Tryz.func48, Tryz.ntmps48
  go_wp2_with (first
    | (go_at_call 77; (with_reducible refine (FW.out).mono ?_); rintro e w1 ⟨rfl, hb9⟩; have HB1 := Lib.hid hb9; clear hb9)
    | (go_at_call 69; (with_reducible refine (CJ.out _ _ HB1.out).mono ?_); rintro e w2 ⟨rfl, hb9⟩; have HB2 := Lib.hid (below_call HB1.out hb9 (Nat.le_refl _)); clear hb9))
  go_ret
  exact ⟨rfl, HB2.out⟩
set_option maxRecDepth 100000 in
set_option maxHeartbeats 4000000 in
theorem esub_con (p : Addr) (F : Nat → Prop) (c : Cfg) (l : Int) (L : List Int) (q : Addr) (G' : Nat → Prop) (M : List Int) (w : World) (h : EX w p F c l L) (g : EX w q G' c l M) (hm : c.md = 2) :
    Calls Tryz.prog 48 #[.pointer (some p), .pointer (some q)] w fun e w' => e = .returned (.int .i64 3) ∧ Below w.heap.size w w' := by
  have FW := Lib.hid (efalls_any p F c l L w h)
  have CJ : Hid (∀ w', Below w.heap.size w w' → _) := Lib.hid (fun w' hb2 => ejoin_mode p F c l L (.func (.func 76) #[] #[]) q G' M w' (h.up hb2) (g.up hb2))
  rw [show (c.md != 2) = false by simp [hm]] at FW
  clear h g hm
  go_enter Tryz.func48, Tryz.ntmps48
  go_wp2_with (first
    | (go_at_call 77; (with_reducible refine (FW.out).mono ?_); rintro e w1 ⟨rfl, hb9⟩; have HB1 := Lib.hid hb9; clear hb9)
    | (go_at_call 69; (with_reducible refine (CJ.out _ HB1.out).mono ?_); rintro e w2 ⟨rfl, hb9⟩; have HB2 := Lib.hid (below_call HB1.out hb9 (Nat.le_refl _)); clear hb9))
  go_ret
  exact ⟨rfl, HB2.out⟩
set_option maxRecDepth 100000 in
set_option maxHeartbeats 4000000 in
theorem esub_yes (p : Addr) (F : Nat → Prop) (c : Cfg) (l : Int) (L : List Int) (q : Addr) (G' : Nat → Prop) (M : List Int) (w : World) (h : EX w p F c l L) (g : EX w q G' c l M) (hm : ¬ c.md = 2) :
    Calls Tryz.prog 48 #[.pointer (some p), .pointer (some q)] w fun e w' => e = .returned (.int .i64 (exJ (-1) L M)) ∧ ∃ F', EX w' p F' c l (exM (-1) L M) ∧ Kept F w w' ∧ (∀ k, F' k → F k ∨ w.heap.size ≤ k) := by
  have FW := Lib.hid (efalls_any p F c l L w h)
  have CJ : Hid (∀ w', Below w.heap.size w w' → Calls Tryz.prog 69 #[.pointer (some p), .pointer (some q), .bool true, .func (.func 76) #[] #[]] w' fun e w2 => e = .returned (.int .i64 (exJ (-1) L M)) ∧ ∃ F', EX w2 p F' c l (exM (-1) L M) ∧ Kept F w w2 ∧ (∀ k, F' k → F k ∨ w.heap.size ≤ k)) := Lib.hid (fun w' hb2 => (ejoin_minus p F c l L q G' M w' (h.up hb2) (g.up hb2)).mono (fun e w2 ⟨e1, G6, h1, h2, h3⟩ => ⟨e1, G6, h1, (Kept.of_below hb2).trans h2 (fun q hq h => h), fun q hq => (h3 q hq).elim .inl (fun h => .inr (Nat.le_trans hb2.size h))⟩))
  rw [show (c.md != 2) = true by simp [hm]] at FW
  clear h g hm
  go_enter Tryz.func48, Tryz.ntmps48
  go_wp2_with (first
    | (go_at_call 77; (with_reducible refine (FW.out).mono ?_); rintro e w1 ⟨rfl, hb9⟩; have HB1 := Lib.hid hb9; clear hb9)
    | (go_at_call 69; (with_reducible refine (CJ.out _ HB1.out).mono ?_); rintro e w6 ⟨rfl, F6, hp6, hk6, hf6⟩; have HP6 := Lib.hid hp6; have HK6 := Lib.hid hk6; have HF6 := Lib.hid hf6; clear hp6 hk6 hf6))
  go_ret
  exact ⟨rfl, F6, HP6.out, HK6.out, HF6.out⟩
theorem esub_any (p : Addr) (F : Nat → Prop) (c : Cfg) (l : Int) (L : List Int) (q : Addr) (G : Nat → Prop) (c' : Cfg) (l' : Int) (M : List Int) (w : World) (h : EX w p F c l L) (g : EX w q G c' l' M) :
    Calls Tryz.prog 48 #[.pointer (some p), .pointer (some q)] w fun e w' => e = .returned (.int .i64 (mgC (-1) c c' l l' L M)) ∧ ∃ F', EX w' p F' c l (mgR (-1) c c' l l' L M) ∧ Kept F w w' ∧ (∀ k, F' k → F k ∨ w.heap.size ≤ k) := by
  unfold mgC mgR
  by_cases hn : cfgE c c' = true ∧ l = l'
  · rw [if_pos hn, if_pos hn]
    have hc := of_decide_eq_true hn.1
    have e : c = c' := by cases c; cases c'; simp_all
    have e2 := hn.2
    subst e e2
    by_cases hm : c.md = 2
    · rw [if_pos ⟨rfl, hm⟩, if_pos ⟨rfl, hm⟩]
      exact (esub_con p F c l L q G M w h g hm).mono (fun e w' h2 => ⟨h2.1, F, h.up h2.2, Kept.of_below h2.2, fun q hq => .inl hq⟩)
    · rw [if_neg (fun h => hm h.2), if_neg (fun h => hm h.2)]
      exact esub_yes p F c l L q G M w h g hm
  · rw [if_neg hn, if_neg hn]
    exact (esub_no p F c l L q G c' l' M w h g hn).mono (fun e w' h2 => ⟨h2.1, F, h.up h2.2, Kept.of_below h2.2, fun q hq => .inl hq⟩)
end Go.Proofs.YtkannodfamnmcaaGreat.Exa
/- The document's array: a block of its config, its level and its row. Printed by wip/gen/exaref.py. -/
namespace Go.Proofs.YtkannodfamnmcaaGreat.Exa
open Go Go.RowKit Lw Grd Lin Con Shp Sk
set_option linter.unusedVariables false
set_option linter.unusedSimpArgs false
/-- An array of the document at p, in the blocks F. -/
def DA (w : World) (p : Addr) (F : Nat → Prop) (c : Cfg) (l : Int) (L : List Int) : Prop :=
  c.Ok ∧ L.length ≤ 128 ∧ In64 L ∧ ∃ (b g cap : Nat), p = ⟨b, 0, none⟩ ∧ w.heap[b]? = some (.cells #[.int .i64 c.bt, .int .i64 c.rw, .int .i64 c.wd, .int .i64 c.md, .int .u64 c.sd, .int .i64 l, .slice (some ⟨g, 0, none⟩) L.length cap] 101 (0, 0)) ∧ Ord.Mid w g 0 L ∧ L.length ≤ cap ∧ cap ≤ maxLen ∧ g ≠ b ∧ F = (fun k => k = b ∨ k = g)
theorem DA.keep {w' : World} {H : Nat → Prop} {w : World} {p : Addr} {F : Nat → Prop} {c : Cfg} {l : Int} {L : List Int} (h : DA w p F c l L) (hk : Kept H w w') (hf : ∀ k, F k → ¬ H k) : DA w' p F c l L := by
  obtain ⟨h1, h2, h3, b, g, cap, rfl, hb, hm, h4, h5, h6, rfl⟩ := h
  exact ⟨h1, h2, h3, b, g, cap, rfl, hk.heap hb (hf b (.inl rfl)), hm.keep hk (hf g (.inr rfl)), h4, h5, h6, rfl⟩
theorem DA.up {w' : World} {w : World} {p : Addr} {F : Nat → Prop} {c : Cfg} {l : Int} {L : List Int} (h : DA w p F c l L) (hk : Below w.heap.size w w') : DA w' p F c l L := h.keep (Kept.of_below (F := fun _ => False) hk) (fun _ _ h => h)
theorem DA.lt {w : World} {p : Addr} {F : Nat → Prop} {c : Cfg} {l : Int} {L : List Int} (h : DA w p F c l L) (k : Nat) (hk : F k) : k < w.heap.size := by
  obtain ⟨h1, h2, h3, b, g, cap, rfl, hb, hm, h4, h5, h6, rfl⟩ := h
  rcases hk with rfl | rfl
  · exact size_of_heap hb
  · exact hm.lt
def daT (p : Addr) (F : Nat → Prop) (c : Cfg) (l : Int) (L : List Int) : Thing where
  I := fun w => DA w p F c l L
  F := F
  keep := fun w w' H h hk hf => h.keep hk hf
  lt := fun w h k hk => h.lt k hk
theorem daI {w : World} {p : Addr} {F : Nat → Prop} {c : Cfg} {l : Int} {L : List Int} (h : (daT p F c l L).I w) : DA w p F c l L := h
set_option maxRecDepth 100000 in
theorem apoint_no (p : Addr) (F : Nat → Prop) (c : Cfg) (l : Int) (L : List Int) (k : Int) (w : World) (h : DA w p F c l L) (k0 : 0 ≤ k) (k1 : k ≤ 18446744073709551615) (hk : (L.length : Int) ≤ k) :
    Calls Tryz.prog 36 #[.pointer (some p), .int .u64 k] w fun e w' => e = .returned (.tuple #[.int .i64 0, .int .i64 2]) ∧ Below w.heap.size w w' := by
  obtain ⟨h1, h2, h3, b, g, cap, rfl, hb, hm, h4, h5, h6, rfl⟩ := h
  have hbl := size_of_heap hb
  have hgl := hm.lt
  have c0 := grd_cell hb 0 (v := .int .i64 c.bt) rfl
  have c1 := grd_cell hb 1 (v := .int .i64 c.rw) rfl
  have c2 := grd_cell hb 2 (v := .int .i64 c.wd) rfl
  have c3 := grd_cell hb 3 (v := .int .i64 c.md) rfl
  have c4 := grd_cell hb 4 (v := .int .u64 c.sd) rfl
  have c5 := grd_cell hb 5 (v := .int .i64 l) rfl
  have c6 := grd_cell hb 6 (v := .slice (some ⟨g, 0, none⟩) L.length cap) rfl
  have u1 : IntKind.u64.wrap (L.length : Int) = (L.length : Int) := by rw [IntKind.wrap_u64]; omega
  clear hb hm h3
  go_enter Tryz.func36, Tryz.ntmps36
  go_wp2
  all_goals go_ret2
  all_goals exact ⟨rfl, (by repeat' (first | (with_reducible exact Below.refl _ _) | (with_reducible assumption) | (with_reducible refine below_over ?_ _ _) | (with_reducible refine Lw.below_alloc ?_ _) | (with_reducible refine Below.drew ?_) | (with_reducible refine below_drewN ?_ _) | (with_reducible refine Below.setCell ?_ ?_ _) | go_size))⟩
set_option maxRecDepth 100000 in
theorem apoint_yes (p : Addr) (F : Nat → Prop) (c : Cfg) (l : Int) (L : List Int) (k : Int) (w : World) (h : DA w p F c l L) (k0 : 0 ≤ k) (k1 : k ≤ 18446744073709551615) (hk : k < (L.length : Int)) :
    Calls Tryz.prog 36 #[.pointer (some p), .int .u64 k] w fun e w' => e = .returned (.tuple #[.int .i64 (num L k), .int .i64 0]) ∧ Below w.heap.size w w' := by
  obtain ⟨h1, h2, h3, b, g, cap, rfl, hb, hm, h4, h5, h6, rfl⟩ := h
  have hbl := size_of_heap hb
  have hgl := hm.lt
  have c0 := grd_cell hb 0 (v := .int .i64 c.bt) rfl
  have c1 := grd_cell hb 1 (v := .int .i64 c.rw) rfl
  have c2 := grd_cell hb 2 (v := .int .i64 c.wd) rfl
  have c3 := grd_cell hb 3 (v := .int .i64 c.md) rfl
  have c4 := grd_cell hb 4 (v := .int .u64 c.sd) rfl
  have c5 := grd_cell hb 5 (v := .int .i64 l) rfl
  have c6 := grd_cell hb 6 (v := .slice (some ⟨g, 0, none⟩) L.length cap) rfl
  obtain ⟨K, rfl⟩ : ∃ K : Nat, k = K := ⟨k.toNat, by omega⟩
  have hK : K < L.length := by omega
  obtain ⟨v, hv⟩ : ∃ v, L[K]? = some v := ⟨_, List.getElem?_eq_getElem hK⟩
  have hn : num L (K : Int) = v := by unfold num; rw [Int.toNat_natCast, hv]; rfl
  have cv := hm.cell hv
  rw [hn]
  have u1 : IntKind.u64.wrap (L.length : Int) = (L.length : Int) := by rw [IntKind.wrap_u64]; omega
  have hkx : ¬ (L.length : Int) ≤ (K : Int) := by omega
  obtain ⟨ga, hga⟩ : ∃ a : Addr, (⟨g, 0, none⟩ : Addr) = a := ⟨_, rfl⟩
  rw [← Ord.add_at, hga] at cv
  rw [hga] at c6
  clear hb hm h3 hv hn
  go_enter Tryz.func36, Tryz.ntmps36
  go_wp2
  all_goals go_ret2
  all_goals exact ⟨rfl, (by repeat' (first | (with_reducible exact Below.refl _ _) | (with_reducible assumption) | (with_reducible refine below_over ?_ _ _) | (with_reducible refine Lw.below_alloc ?_ _) | (with_reducible refine Below.drew ?_) | (with_reducible refine below_drewN ?_ _) | (with_reducible refine Below.setCell ?_ ?_ _) | go_size))⟩
set_option maxRecDepth 100000 in
set_option maxHeartbeats 4000000 in
theorem aupd_no (p : Addr) (F : Nat → Prop) (c : Cfg) (l : Int) (L : List Int) (k d : Int) (w : World) (h : DA w p F c l L) (k0 : 0 ≤ k) (k1 : k ≤ 18446744073709551615) (d0 : -9223372036854775808 ≤ d) (d1 : d ≤ 9223372036854775807) (hk : (L.length : Int) ≤ k) :
    Calls Tryz.prog 40 #[.pointer (some p), .int .u64 k, .int .i64 d] w fun e w' => e = .returned (.int .i64 2) ∧ Below w.heap.size w w' := by
  obtain ⟨h1, h2, h3, b, g, cap, rfl, hb, hm, h4, h5, h6, rfl⟩ := h
  have hbl := size_of_heap hb
  have hgl := hm.lt
  have c0 := grd_cell hb 0 (v := .int .i64 c.bt) rfl
  have c1 := grd_cell hb 1 (v := .int .i64 c.rw) rfl
  have c2 := grd_cell hb 2 (v := .int .i64 c.wd) rfl
  have c3 := grd_cell hb 3 (v := .int .i64 c.md) rfl
  have c4 := grd_cell hb 4 (v := .int .u64 c.sd) rfl
  have c5 := grd_cell hb 5 (v := .int .i64 l) rfl
  have c6 := grd_cell hb 6 (v := .slice (some ⟨g, 0, none⟩) L.length cap) rfl
  have u1 : IntKind.u64.wrap (L.length : Int) = (L.length : Int) := by rw [IntKind.wrap_u64]; omega
  clear hb hm h3
  go_enter Tryz.func40, Tryz.ntmps40
  go_wp2
  all_goals go_ret
  all_goals exact ⟨rfl, (by repeat' (first | (with_reducible exact Below.refl _ _) | (with_reducible assumption) | (with_reducible refine below_over ?_ _ _) | (with_reducible refine Lw.below_alloc ?_ _) | (with_reducible refine Below.drew ?_) | (with_reducible refine below_drewN ?_ _) | (with_reducible refine Below.setCell ?_ ?_ _) | go_size))⟩
set_option maxRecDepth 100000 in
set_option maxHeartbeats 4000000 in
theorem aupd_mode (p : Addr) (F : Nat → Prop) (c : Cfg) (l : Int) (L : List Int) (k d : Int) (w : World) (h : DA w p F c l L) (k0 : 0 ≤ k) (k1 : k ≤ 18446744073709551615) (d0 : -9223372036854775808 ≤ d) (d1 : d ≤ 9223372036854775807) (hk : k < (L.length : Int)) (hm2 : c.md = 2 ∧ d < 0) :
    Calls Tryz.prog 40 #[.pointer (some p), .int .u64 k, .int .i64 d] w fun e w' => e = .returned (.int .i64 3) ∧ Below w.heap.size w w' := by
  obtain ⟨h1, h2, h3, b, g, cap, rfl, hb, hm, h4, h5, h6, rfl⟩ := h
  have hbl := size_of_heap hb
  have hgl := hm.lt
  have c0 := grd_cell hb 0 (v := .int .i64 c.bt) rfl
  have c1 := grd_cell hb 1 (v := .int .i64 c.rw) rfl
  have c2 := grd_cell hb 2 (v := .int .i64 c.wd) rfl
  have c3 := grd_cell hb 3 (v := .int .i64 c.md) rfl
  have c4 := grd_cell hb 4 (v := .int .u64 c.sd) rfl
  have c5 := grd_cell hb 5 (v := .int .i64 l) rfl
  have c6 := grd_cell hb 6 (v := .slice (some ⟨g, 0, none⟩) L.length cap) rfl
  have u1 : IntKind.u64.wrap (L.length : Int) = (L.length : Int) := by rw [IntKind.wrap_u64]; omega
  have hkx : ¬ (L.length : Int) ≤ k := by omega
  have hmb : (c.md == 2) = true := by simp [hm2.1]
  have hd := hm2.2
  clear hb hm h3 hm2
  go_enter Tryz.func40, Tryz.ntmps40
  go_wp2
  all_goals go_ret
  all_goals exact ⟨rfl, (by repeat' (first | (with_reducible exact Below.refl _ _) | (with_reducible assumption) | (with_reducible refine below_over ?_ _ _) | (with_reducible refine Lw.below_alloc ?_ _) | (with_reducible refine Below.drew ?_) | (with_reducible refine below_drewN ?_ _) | (with_reducible refine Below.setCell ?_ ?_ _) | go_size))⟩
set_option maxRecDepth 100000 in
set_option maxHeartbeats 4000000 in
theorem aupd_over (p : Addr) (F : Nat → Prop) (c : Cfg) (l : Int) (L : List Int) (k d : Int) (w : World) (h : DA w p F c l L) (k0 : 0 ≤ k) (k1 : k ≤ 18446744073709551615) (d0 : -9223372036854775808 ≤ d) (d1 : d ≤ 9223372036854775807) (hk : k < (L.length : Int)) (hm2 : ¬ (c.md = 2 ∧ d < 0)) (hf : Wid.fit64 (num L k + d) = false) :
    Calls Tryz.prog 40 #[.pointer (some p), .int .u64 k, .int .i64 d] w fun e w' => e = .returned (.int .i64 4) ∧ Below w.heap.size w w' := by
  obtain ⟨h1, h2, h3, b, g, cap, rfl, hb, hm, h4, h5, h6, rfl⟩ := h
  have hbl := size_of_heap hb
  have hgl := hm.lt
  have c0 := grd_cell hb 0 (v := .int .i64 c.bt) rfl
  have c1 := grd_cell hb 1 (v := .int .i64 c.rw) rfl
  have c2 := grd_cell hb 2 (v := .int .i64 c.wd) rfl
  have c3 := grd_cell hb 3 (v := .int .i64 c.md) rfl
  have c4 := grd_cell hb 4 (v := .int .u64 c.sd) rfl
  have c5 := grd_cell hb 5 (v := .int .i64 l) rfl
  have c6 := grd_cell hb 6 (v := .slice (some ⟨g, 0, none⟩) L.length cap) rfl
  obtain ⟨K, rfl⟩ : ∃ K : Nat, k = K := ⟨k.toNat, by omega⟩
  have hK : K < L.length := by omega
  obtain ⟨v, hv⟩ : ∃ v, L[K]? = some v := ⟨_, List.getElem?_eq_getElem hK⟩
  have hn : num L (K : Int) = v := by unfold num; rw [Int.toNat_natCast, hv]; rfl
  have hvb := h3.at hv
  have u1 : IntKind.u64.wrap (L.length : Int) = (L.length : Int) := by rw [IntKind.wrap_u64]; omega
  have hkx : ¬ (L.length : Int) ≤ (K : Int) := by omega
  have CA := Lib.hid (fun w => Wid.radd_any v d w hvb.1 hvb.2 d0 d1)
  have cv := hm.cell hv
  have fv := hm.frozen (0 + K)
  have hm6 := hm.set K (Wid.f64 (v + d))
  obtain ⟨ga, hga⟩ : ∃ a : Addr, (⟨g, 0, none⟩ : Addr) = a := ⟨_, rfl⟩
  rw [← Ord.add_at, hga] at cv fv hm6
  have gv : ∀ bs dd, (grow w bs dd).cell? (ga.add K) = some (.int .i64 v) := fun bs dd => cell_up cv (grow_below w bs dd)
  rw [hn] at hf
  rw [hga] at c6
  rw [hf] at CA
  have HM2 := Lib.hid hm2
  clear hb hm h3 hv hn hm6 hvb hm2 hf
  by_cases hmd : c.md = 2
  · have hmb : (c.md == 2) = true := by simp [hmd]
    have hd : ¬ d < 0 := fun h => HM2.out ⟨hmd, h⟩
    clear hmd
    go_enter Tryz.func40, Tryz.ntmps40
    go_wp2_with (go_at_call 64; (with_reducible refine (CA.out _).mono ?_); rintro e w' ⟨rfl, hb⟩; obtain ⟨bs, dd, rfl⟩ := below_grow hb; clear hb)
    all_goals go_ret
    all_goals exact ⟨rfl, (by repeat' (first | (with_reducible exact Below.refl _ _) | (with_reducible assumption) | (with_reducible refine below_over ?_ _ _) | (with_reducible refine Lw.below_alloc ?_ _) | (with_reducible refine Below.drew ?_) | (with_reducible refine below_drewN ?_ _) | (with_reducible refine Below.setCell ?_ ?_ _) | go_size))⟩
  · have hmb : (c.md == 2) = false := by simpa using hmd
    clear hmd
    go_enter Tryz.func40, Tryz.ntmps40
    go_wp2_with (go_at_call 64; (with_reducible refine (CA.out _).mono ?_); rintro e w' ⟨rfl, hb⟩; obtain ⟨bs, dd, rfl⟩ := below_grow hb; clear hb)
    all_goals go_ret
    all_goals exact ⟨rfl, (by repeat' (first | (with_reducible exact Below.refl _ _) | (with_reducible assumption) | (with_reducible refine below_over ?_ _ _) | (with_reducible refine Lw.below_alloc ?_ _) | (with_reducible refine Below.drew ?_) | (with_reducible refine below_drewN ?_ _) | (with_reducible refine Below.setCell ?_ ?_ _) | go_size))⟩
set_option maxRecDepth 100000 in
set_option maxHeartbeats 4000000 in
theorem aupd_ok (p : Addr) (F : Nat → Prop) (c : Cfg) (l : Int) (L : List Int) (k d : Int) (w : World) (h : DA w p F c l L) (k0 : 0 ≤ k) (k1 : k ≤ 18446744073709551615) (d0 : -9223372036854775808 ≤ d) (d1 : d ≤ 9223372036854775807) (hk : k < (L.length : Int)) (hm2 : ¬ (c.md = 2 ∧ d < 0)) (hf : Wid.fit64 (num L k + d) = true) :
    Calls Tryz.prog 40 #[.pointer (some p), .int .u64 k, .int .i64 d] w fun e w' => e = .returned (.int .i64 0) ∧ ∃ F', DA w' p F' c l (L.set k.toNat (num L k + d)) ∧ Kept F w w' ∧ (∀ q, F' q → F q ∨ w.heap.size ≤ q) := by
  obtain ⟨h1, h2, h3, b, g, cap, rfl, hb, hm, h4, h5, h6, rfl⟩ := h
  have hbl := size_of_heap hb
  have hgl := hm.lt
  have c0 := grd_cell hb 0 (v := .int .i64 c.bt) rfl
  have c1 := grd_cell hb 1 (v := .int .i64 c.rw) rfl
  have c2 := grd_cell hb 2 (v := .int .i64 c.wd) rfl
  have c3 := grd_cell hb 3 (v := .int .i64 c.md) rfl
  have c4 := grd_cell hb 4 (v := .int .u64 c.sd) rfl
  have c5 := grd_cell hb 5 (v := .int .i64 l) rfl
  have c6 := grd_cell hb 6 (v := .slice (some ⟨g, 0, none⟩) L.length cap) rfl
  obtain ⟨K, rfl⟩ : ∃ K : Nat, k = K := ⟨k.toNat, by omega⟩
  have hK : K < L.length := by omega
  obtain ⟨v, hv⟩ : ∃ v, L[K]? = some v := ⟨_, List.getElem?_eq_getElem hK⟩
  have hn : num L (K : Int) = v := by unfold num; rw [Int.toNat_natCast, hv]; rfl
  have hvb := h3.at hv
  have u1 : IntKind.u64.wrap (L.length : Int) = (L.length : Int) := by rw [IntKind.wrap_u64]; omega
  have hkx : ¬ (L.length : Int) ≤ (K : Int) := by omega
  have CA := Lib.hid (fun w => Wid.radd_any v d w hvb.1 hvb.2 d0 d1)
  have cv := hm.cell hv
  have fv := hm.frozen (0 + K)
  have hm6 := hm.set K (Wid.f64 (v + d))
  obtain ⟨ga, hga⟩ : ∃ a : Addr, (⟨g, 0, none⟩ : Addr) = a := ⟨_, rfl⟩
  rw [← Ord.add_at, hga] at cv fv hm6
  have gv : ∀ bs dd, (grow w bs dd).cell? (ga.add K) = some (.int .i64 v) := fun bs dd => cell_up cv (grow_below w bs dd)
  rw [hn] at hf ⊢
  rw [Int.toNat_natCast]
  have hfz := in64_fit hf
  have hff : Wid.f64 (v + d) = v + d := (Wid.fit64_yes hfz.1 (by omega)).2
  rw [hff] at CA hm6
  have gf : ∀ bs dd, (grow w bs dd).frozen? (ga.add K) = false := fun bs dd => by
    rw [← hga, Ord.add_at]
    exact (hm.up (grow_below w bs dd)).frozen _
  have HT : Hid (∀ bs dd, ∃ F', DA ((grow w bs dd).setCell (ga.add K) (.int .i64 (v + d))) ⟨b, 0, none⟩ F' c l (L.set K (v + d)) ∧ Kept (fun k => k = b ∨ k = g) w ((grow w bs dd).setCell (ga.add K) (.int .i64 (v + d))) ∧ (∀ q, F' q → (q = b ∨ q = g) ∨ w.heap.size ≤ q)) := Lib.hid (fun bs dd => by
    have hb9 := grow_below w bs dd
    have hks : Kept (fun q => q = g) (grow w bs dd) ((grow w bs dd).setCell ⟨g, 0 + K, none⟩ (.int .i64 (v + d))) := (Kept.refl (fun q => q = g) _).set (.inl rfl) _ _
    have hm9 := (hm.up hb9).set K (v + d)
    have hbb : (grow w bs dd).heap[b]? = some (.cells #[.int .i64 c.bt, .int .i64 c.rw, .int .i64 c.wd, .int .i64 c.md, .int .u64 c.sd, .int .i64 l, .slice (some ⟨g, 0, none⟩) L.length cap] 101 (0, 0)) := by rw [hb9.block b hbl]; exact hb
    have hk9 : Kept (fun k => k = b ∨ k = g) w ((grow w bs dd).setCell ⟨g, 0 + K, none⟩ (.int .i64 (v + d))) := (Kept.of_below hb9).trans (hks.mono (fun q _ e => .inr e)) (fun q hq e => e)
    rw [← hga, Ord.add_at]
    refine ⟨fun k => k = b ∨ k = g, ⟨h1, by rw [List.length_set]; exact h2, in64_set h3 K hfz.1 hfz.2, b, g, cap, rfl, ?_, hm9, by rw [List.length_set]; exact h4, h5, h6, rfl⟩, hk9, fun q hq => .inl hq⟩
    rw [List.length_set]
    exact hks.heap hbb (fun e => h6 e.symm))
  rw [hga] at c6
  rw [hf] at CA
  obtain ⟨S, hS⟩ : ∃ S, v + d = S := ⟨_, rfl⟩
  have HM2 := Lib.hid hm2
  clear hb hm h3 hv hn hm6 hvb hm2 hf hfz hff
  rw [hS] at HT ⊢
  rw [hS] at CA
  clear hS
  by_cases hmd : c.md = 2
  · have hmb : (c.md == 2) = true := by simp [hmd]
    have hd : ¬ d < 0 := fun h => HM2.out ⟨hmd, h⟩
    clear hmd
    go_enter Tryz.func40, Tryz.ntmps40
    go_wp2_with (go_at_call 64; (with_reducible refine (CA.out _).mono ?_); rintro e w' ⟨rfl, hb⟩; obtain ⟨bs, dd, rfl⟩ := below_grow hb; clear hb)
    all_goals go_ret
    all_goals exact ⟨rfl, HT.out bs dd⟩
  · have hmb : (c.md == 2) = false := by simpa using hmd
    clear hmd
    go_enter Tryz.func40, Tryz.ntmps40
    go_wp2_with (go_at_call 64; (with_reducible refine (CA.out _).mono ?_); rintro e w' ⟨rfl, hb⟩; obtain ⟨bs, dd, rfl⟩ := below_grow hb; clear hb)
    all_goals go_ret
    all_goals exact ⟨rfl, HT.out bs dd⟩
theorem aupd_any (p : Addr) (F : Nat → Prop) (c : Cfg) (l : Int) (L : List Int) (k d : Int) (w : World) (h : DA w p F c l L) (k0 : 0 ≤ k) (k1 : k ≤ 18446744073709551615) (d0 : -9223372036854775808 ≤ d) (d1 : d ≤ 9223372036854775807) :
    Calls Tryz.prog 40 #[.pointer (some p), .int .u64 k, .int .i64 d] w fun e w' => e = .returned (.int .i64 (exCode c.md L k d)) ∧ ∃ F', DA w' p F' c l (exRes c.md L k d) ∧ Kept F w w' ∧ (∀ q, F' q → F q ∨ w.heap.size ≤ q) := by
  by_cases hk : (L.length : Int) ≤ k
  · have e := ex_key (md := c.md) (d := d) hk
    rw [e.1, e.2]
    exact (aupd_no p F c l L k d w h k0 k1 d0 d1 hk).mono (fun e w' h2 => ⟨h2.1, F, h.up h2.2, Kept.of_below h2.2, fun q hq => .inl hq⟩)
  have hk2 : k < (L.length : Int) := by omega
  by_cases hm : c.md = 2 ∧ d < 0
  · have e := ex_mode (md := c.md) (d := d) hk2 hm
    rw [e.1, e.2]
    exact (aupd_mode p F c l L k d w h k0 k1 d0 d1 hk2 hm).mono (fun e w' h2 => ⟨h2.1, F, h.up h2.2, Kept.of_below h2.2, fun q hq => .inl hq⟩)
  cases hf : Wid.fit64 (num L k + d) with
  | true =>
    have e := ex_yes (md := c.md) hk2 hm hf
    rw [e.1, e.2]
    exact aupd_ok p F c l L k d w h k0 k1 d0 d1 hk2 hm hf
  | false =>
    have e := ex_over (md := c.md) hk2 hm hf
    rw [e.1, e.2]
    exact (aupd_over p F c l L k d w h k0 k1 d0 d1 hk2 hm hf).mono (fun e w' h2 => ⟨h2.1, F, h.up h2.2, Kept.of_below h2.2, fun q hq => .inl hq⟩)
theorem i64_info : (Tryz.prog.info? 2).map (fun i => (i.zero, i.size, i.bytes)) = some (some (.int .i64 0), 1, 8) := by kernel_rfl
theorem i64s_u : Tryz.prog.underlying 45 = some (.slice 2) := by kernel_rfl
set_option maxRecDepth 100000 in
theorem anew_any (c : Cfg) (l : Int) (n : Nat) (w : World) (h : c.Ok) (hn : n ≤ 128) :
    Calls Tryz.prog 33 #[.agg #[.int .i64 c.bt, .int .i64 c.rw, .int .i64 c.wd, .int .i64 c.md, .int .u64 c.sd], .int .i64 l, .int .u64 (n : Int)] w fun e w' => ∃ (p : Addr) (F : Nat → Prop), e = .returned (.pointer (some p)) ∧ DA w' p F c l (List.replicate n 0) ∧ (∀ k, F k → w.heap.size ≤ k) ∧ Below w.heap.size w w' := by
  obtain ⟨i0, hi, hz0, hz1, hz2⟩ := info_parts i64_info
  have hmk : ∀ w, (Instr.makeSlice 45 (.int .u64 (n : Int)) (.int .u64 (n : Int))).run Tryz.prog w = .ok (.slice (some ⟨w.heap.size, 0, none⟩) n n) (w.alloc (.cells (madeCells #[.int .i64 0] n) 2)) := by
    intro w
    have h := run_make (P := Tryz.prog) w 45 2 i0 (.int .i64 0) i64s_u hi hz0 .u64 .u64 n n (by omega) (Int.le_refl _) (by rw [hz2]; omega) (by omega)
    rw [hz1] at h
    simpa [Value.cells] using h
  have hmin : ∀ w : World, (Builtin.min_ #[22, 22] 22 #[.int .u64 (n : Int), .int .u64 128]).run Tryz.prog w = .ok (.int .u64 (n : Int)) w := fun w => by
    have e : ¬ (128 : Int) < (n : Int) := by omega
    simp [Builtin.min_, Builtin.min2, e]
  have e128 : ¬ (128 : Int) < (n : Int) := by omega
  have hmn : (if (128 : Int) < (n : Int) then (128 : Int) else (n : Int)) = (n : Int) := if_neg e128
  clear hi hz0 hz1 hz2
  go_enter Tryz.func33, Tryz.ntmps33
  go_upto_region 1 with fail
  go_region
  all_goals go_wp2
  all_goals go_ret
  have hm0 := Grd.mid_made (w.alloc (.cells #[.int .i64 c.bt, .int .i64 c.rw, .int .i64 c.wd, .int .i64 c.md, .int .u64 c.sd] 24)) n 2
  rw [World.size_alloc] at hm0
  have hn0 := heap_alloc_new ((w.alloc (.cells #[.int .i64 c.bt, .int .i64 c.rw, .int .i64 c.wd, .int .i64 c.md, .int .u64 c.sd] 24)).alloc (.cells (madeCells #[.int .i64 0] n) 2)) (.cells #[.int .i64 c.bt, .int .i64 c.rw, .int .i64 c.wd, .int .i64 c.md, .int .u64 c.sd, .int .i64 l, .slice (some ⟨w.heap.size + 1, 0, none⟩) n n] 101)
  rw [World.size_alloc, World.size_alloc] at hn0
  refine ⟨_, rfl, fun k => k = w.heap.size + 1 + 1 ∨ k = w.heap.size + 1, ⟨h, by simp; omega, fun v hv => by have := (List.mem_replicate.1 hv).2; omega, _, w.heap.size + 1, n, rfl, ?_, hm0.up (by repeat' (first | (with_reducible exact Below.refl _ _) | (with_reducible assumption) | (with_reducible refine below_over ?_ _ _) | (with_reducible refine Lw.below_alloc ?_ _) | (with_reducible refine Below.drew ?_) | (with_reducible refine below_drewN ?_ _) | (with_reducible refine Below.setCell ?_ ?_ _) | go_size)), by simp, by unfold maxLen; omega, by omega, rfl⟩, fun k hk => by omega, (by repeat' (first | (with_reducible exact Below.refl _ _) | (with_reducible assumption) | (with_reducible refine below_over ?_ _ _) | (with_reducible refine Lw.below_alloc ?_ _) | (with_reducible refine Below.drew ?_) | (with_reducible refine below_drewN ?_ _) | (with_reducible refine Below.setCell ?_ ?_ _) | go_size))⟩
  rw [List.length_replicate]
  exact hn0
set_option maxRecDepth 100000 in
set_option maxHeartbeats 4000000 in
theorem acopy_any (p : Addr) (F : Nat → Prop) (c : Cfg) (l : Int) (L : List Int) (w : World) (h : DA w p F c l L) :
    Calls Tryz.prog 38 #[.pointer (some p)] w fun e w' => ∃ (q : Addr) (Q : Nat → Prop), e = .returned (.pointer (some q)) ∧ DA w' q Q c l L ∧ (∀ k, Q k → w.heap.size ≤ k) ∧ Below w.heap.size w w' := by
  obtain ⟨i0, hi, hz0, hz1, hz2⟩ := info_parts i64_info
  obtain ⟨h1, h2, h3, b, g, cap, rfl, hb, hm, h4, h5, h6, rfl⟩ := h
  have hbl := size_of_heap hb
  have hgl := hm.lt
  have c0 := grd_cell hb 0 (v := .int .i64 c.bt) rfl
  have c1 := grd_cell hb 1 (v := .int .i64 c.rw) rfl
  have c2 := grd_cell hb 2 (v := .int .i64 c.wd) rfl
  have c3 := grd_cell hb 3 (v := .int .i64 c.md) rfl
  have c4 := grd_cell hb 4 (v := .int .u64 c.sd) rfl
  have c5 := grd_cell hb 5 (v := .int .i64 l) rfl
  have c6 := grd_cell hb 6 (v := .slice (some ⟨g, 0, none⟩) L.length cap) rfl
  have HRD := Lib.hid hm.rd
  have H3 := Lib.hid (And.intro h1 h3)
  unfold maxLen at h5
  clear hb hm h1 h3
  go_enter Tryz.func38, Tryz.ntmps38
  go_upto_region 1 with fail
  go_region_held3 (fun w' => w'.cell? ⟨b, 0, none⟩ = some (.int .i64 c.bt) ∧ w'.cell? ⟨b, 1, none⟩ = some (.int .i64 c.rw) ∧ w'.cell? ⟨b, 2, none⟩ = some (.int .i64 c.wd) ∧ w'.cell? ⟨b, 3, none⟩ = some (.int .i64 c.md) ∧ w'.cell? ⟨b, 4, none⟩ = some (.int .u64 c.sd) ∧ w'.cell? ⟨b, 5, none⟩ = some (.int .i64 l) ∧ w'.cell? ⟨b, 6, none⟩ = some (.slice (some ⟨g, 0, none⟩) L.length cap)) (first | (refine ⟨?_, ?_, ?_, ?_, ?_, ?_, ?_⟩ <;> (first | (with_reducible assumption) | (with_reducible refine cell_up c0 ?_) | (with_reducible refine cell_up c1 ?_) | (with_reducible refine cell_up c2 ?_) | (with_reducible refine cell_up c3 ?_) | (with_reducible refine cell_up c4 ?_) | (with_reducible refine cell_up c5 ?_) | (with_reducible refine cell_up c6 ?_)) <;> (repeat' (first | (with_reducible exact Below.refl _ _) | (with_reducible assumption) | (with_reducible refine below_over ?_ _ _) | (with_reducible refine Lw.below_alloc ?_ _) | (with_reducible refine Below.drew ?_) | (with_reducible refine below_drewN ?_ _) | (with_reducible refine Below.setCell ?_ ?_ _) | go_size)))) (first
    | (refine app_step .i64 rfl _ _ 45 rfl w.heap.size 2 i0 8 i64s_u hi hz0 hz1 hz2 (.slice (some ⟨w.heap.size, 0, none⟩) 0 0) 0 [] rfl (own_empty w.drew _ _ _ (Nat.le_refl _)) (fun h => by cases h) (some ⟨g, 0, none⟩) L.length cap L rfl (fun h => by cases h) rfl (HRD.out.up (by repeat' (first | (with_reducible exact Below.refl _ _) | (with_reducible assumption) | (with_reducible refine below_over ?_ _ _) | (with_reducible refine Lw.below_alloc ?_ _) | (with_reducible refine Below.drew ?_) | (with_reducible refine below_drewN ?_ _) | (with_reducible refine Below.setCell ?_ ?_ _) | go_size))) (by unfold maxLen; omega) (by omega) (by simp) ?_; intro A4 cap4 w4 hown4 hgrow4 hrd4 hcap6 hcap7; have hb4 : Below w.heap.size w w4 := app_below2 (by repeat' (first | (with_reducible exact Below.refl _ _) | (with_reducible assumption) | (with_reducible refine below_over ?_ _ _) | (with_reducible refine Lw.below_alloc ?_ _) | (with_reducible refine Below.drew ?_) | (with_reducible refine below_drewN ?_ _) | (with_reducible refine Below.setCell ?_ ?_ _) | go_size)) hgrow4 (Nat.le_refl _); (try simp only [Nat.zero_add, List.nil_append] at hown4 hcap6); (try simp only [Nat.zero_add]); have HO4 := Lib.hid hown4; have HB4 := Lib.hid hb4; have HC4 := Lib.hid (And.intro hcap6 hcap7); clear hown4 hgrow4 hrd4 hcap6 hcap7))
  all_goals go_wp2
  all_goals go_ret
  obtain ⟨g4, rfl, hg4, hm4⟩ := Ord.mid_own HO4.out
  have hn0 := heap_alloc_new w4 (.cells #[.int .i64 c.bt, .int .i64 c.rw, .int .i64 c.wd, .int .i64 c.md, .int .u64 c.sd, .int .i64 l, .slice (some ⟨g4, 0, none⟩) L.length cap4] 101)
  have hl4 := hm4.lt
  have hs4 := HB4.out.size
  have hb4 := HB4.out
  refine ⟨_, fun k => k = w4.heap.size ∨ k = g4, rfl, ⟨H3.out.1, h2, H3.out.2, _, g4, cap4, rfl, hn0, hm4.up (Lw.below_alloc (Below.refl _ _) _), HC4.out.1, HC4.out.2, by omega, rfl⟩, fun k hk => ?_, hb4.alloc hs4 _⟩
  rcases hk with rfl | rfl <;> omega
end Go.Proofs.YtkannodfamnmcaaGreat.Exa
