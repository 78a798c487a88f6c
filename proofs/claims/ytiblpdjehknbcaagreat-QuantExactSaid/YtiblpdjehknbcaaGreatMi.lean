/- Texts that the statements of this seat lean on, put together: ExaRef, ExaJoin, ExaLawA, ExaShr, LevCode, ColOwn, Many, PcsMath, PcsRef, PcsCov, PcsDef. -/
import Derived.Test.YtiblpdjehknbcaaGreatMa
import Derived.Test.YtiblpdjehknbcaaGreatMb
import Derived.Test.YtiblpdjehknbcaaGreatMc
import Derived.Test.YtiblpdjehknbcaaGreatMd
import Derived.Test.YtiblpdjehknbcaaGreatMg
import Derived.Test.YtiblpdjehknbcaaGreatMh
import Derived.Deep.LoopGhost
import Derived.Deep.RegionHeld3
import Derived.Deep.DeepCutAuto
import Derived.Deep.QuietTactic
import Derived.BigQuiet
import Derived.WalkSpells
/- The document's array: a block of its config, its level and its row. Printed by wip/gen/exaref.py. -/
namespace Go.Proofs.YtiblpdjehknbcaaGreat.Exa
open Go Go.RowKit Lw Grd Lin Con Shp Sk
set_option linter.unusedVariables false
set_option linter.unusedSimpArgs false
/-- An array of the document at p, in the blocks F. -/
def DA (w : World) (p : Addr) (F : Nat → Prop) (c : Cfg) (l : Int) (L : List Int) : Prop :=
  c.Ok ∧ L.length ≤ 128 ∧ In64 L ∧ ∃ (b g cap : Nat), p = ⟨b, 0, none⟩ ∧ w.heap[b]? = some (.cells #[.int .i64 c.bt, .int .i64 c.rw, .int .i64 c.wd, .int .i64 c.md, .int .u64 c.sd, .int .i64 l, .slice (some ⟨g, 0, none⟩) L.length cap] 103 (0, 0)) ∧ Ord.Mid w g 0 L ∧ L.length ≤ cap ∧ cap ≤ maxLen ∧ g ≠ b ∧ F = (fun k => k = b ∨ k = g)
theorem DA.keep {w' : World} {H : Nat → Prop} {w : World} {p : Addr} {F : Nat → Prop} {c : Cfg} {l : Int} {L : List Int} (h : DA w p F c l L) (hk : Kept H w w') (hf : ∀ k, F k → ¬ H k) : DA w' p F c l L := by
  obtain ⟨h1, h2, h3, b, g, cap, rfl, hb, hm, h4, h5, h6, rfl⟩ := h
  exact ⟨h1, h2, h3, b, g, cap, rfl, hk.heap hb (hf b (.inl rfl)), hm.keep hk (hf g (.inr rfl)), h4, h5, h6, rfl⟩
theorem DA.up {w' : World} {w : World} {p : Addr} {F : Nat → Prop} {c : Cfg} {l : Int} {L : List Int} (h : DA w p F c l L) (hk : Below w.heap.size w w') : DA w' p F c l L := h.keep (Kept.of_below (F := fun _ => False) hk) (fun _ _ h => h)
theorem DA.lt {w : World} {p : Addr} {F : Nat → Prop} {c : Cfg} {l : Int} {L : List Int} (h : DA w p F c l L) (k : Nat) (hk : F k) : k < w.heap.size := by
  obtain ⟨h1, h2, h3, b, g, cap, rfl, hb, hm, h4, h5, h6, rfl⟩ := h
  rcases hk with rfl | rfl
  · exact size_of_heap hb
  · exact hm.lt
def daT (p : Addr) (F : Nat → Prop) (c : Cfg) (l : Int) (L : List Int) : Thing where
  I := fun w => DA w p F c l L
  F := F
  keep := fun w w' H h hk hf => h.keep hk hf
  lt := fun w h k hk => h.lt k hk
theorem daI {w : World} {p : Addr} {F : Nat → Prop} {c : Cfg} {l : Int} {L : List Int} (h : (daT p F c l L).I w) : DA w p F c l L := h
set_option maxRecDepth 100000 in
theorem apoint_no (p : Addr) (F : Nat → Prop) (c : Cfg) (l : Int) (L : List Int) (k : Int) (w : World) (h : DA w p F c l L) (k0 : 0 ≤ k) (k1 : k ≤ 18446744073709551615) (hk : (L.length : Int) ≤ k) :
    Calls Tryz.prog 77 #[.pointer (some p), .int .u64 k] w fun e w' => e = .returned (.tuple #[.int .i64 0, .int .i64 2]) ∧ Below w.heap.size w w' := by
  obtain ⟨h1, h2, h3, b, g, cap, rfl, hb, hm, h4, h5, h6, rfl⟩ := h
  have hbl := size_of_heap hb
  have hgl := hm.lt
  have c0 := grd_cell hb 0 (v := .int .i64 c.bt) rfl
  have c1 := grd_cell hb 1 (v := .int .i64 c.rw) rfl
  have c2 := grd_cell hb 2 (v := .int .i64 c.wd) rfl
  have c3 := grd_cell hb 3 (v := .int .i64 c.md) rfl
  have c4 := grd_cell hb 4 (v := .int .u64 c.sd) rfl
  have c5 := grd_cell hb 5 (v := .int .i64 l) rfl
  have c6 := grd_cell hb 6 (v := .slice (some ⟨g, 0, none⟩) L.length cap) rfl
  have u1 : IntKind.u64.wrap (L.length : Int) = (L.length : Int) := by rw [IntKind.wrap_u64]; omega
  clear hb hm h3
  go_enter Tryz.func77, Tryz.ntmps77
  go_wp2
  all_goals go_ret2
  all_goals exact ⟨rfl, (by repeat' (first | (with_reducible exact Below.refl _ _) | (with_reducible assumption) | (with_reducible refine below_over ?_ _ _) | (with_reducible refine Lw.below_alloc ?_ _) | (with_reducible refine Below.drew ?_) | (with_reducible refine below_drewN ?_ _) | (with_reducible refine Below.setCell ?_ ?_ _) | go_size))⟩
set_option maxRecDepth 100000 in
theorem apoint_yes (p : Addr) (F : Nat → Prop) (c : Cfg) (l : Int) (L : List Int) (k : Int) (w : World) (h : DA w p F c l L) (k0 : 0 ≤ k) (k1 : k ≤ 18446744073709551615) (hk : k < (L.length : Int)) :
    Calls Tryz.prog 77 #[.pointer (some p), .int .u64 k] w fun e w' => e = .returned (.tuple #[.int .i64 (num L k), .int .i64 0]) ∧ Below w.heap.size w w' := by
  obtain ⟨h1, h2, h3, b, g, cap, rfl, hb, hm, h4, h5, h6, rfl⟩ := h
  have hbl := size_of_heap hb
  have hgl := hm.lt
  have c0 := grd_cell hb 0 (v := .int .i64 c.bt) rfl
  have c1 := grd_cell hb 1 (v := .int .i64 c.rw) rfl
  have c2 := grd_cell hb 2 (v := .int .i64 c.wd) rfl
  have c3 := grd_cell hb 3 (v := .int .i64 c.md) rfl
  have c4 := grd_cell hb 4 (v := .int .u64 c.sd) rfl
  have c5 := grd_cell hb 5 (v := .int .i64 l) rfl
  have c6 := grd_cell hb 6 (v := .slice (some ⟨g, 0, none⟩) L.length cap) rfl
  obtain ⟨K, rfl⟩ : ∃ K : Nat, k = K := ⟨k.toNat, by omega⟩
  have hK : K < L.length := by omega
  obtain ⟨v, hv⟩ : ∃ v, L[K]? = some v := ⟨_, List.getElem?_eq_getElem hK⟩
  have hn : num L (K : Int) = v := by unfold num; rw [Int.toNat_natCast, hv]; rfl
  have cv := hm.cell hv
  rw [hn]
  have u1 : IntKind.u64.wrap (L.length : Int) = (L.length : Int) := by rw [IntKind.wrap_u64]; omega
  have hkx : ¬ (L.length : Int) ≤ (K : Int) := by omega
  obtain ⟨ga, hga⟩ : ∃ a : Addr, (⟨g, 0, none⟩ : Addr) = a := ⟨_, rfl⟩
  rw [← Ord.add_at, hga] at cv
  rw [hga] at c6
  clear hb hm h3 hv hn
  go_enter Tryz.func77, Tryz.ntmps77
  go_wp2
  all_goals go_ret2
  all_goals exact ⟨rfl, (by repeat' (first | (with_reducible exact Below.refl _ _) | (with_reducible assumption) | (with_reducible refine below_over ?_ _ _) | (with_reducible refine Lw.below_alloc ?_ _) | (with_reducible refine Below.drew ?_) | (with_reducible refine below_drewN ?_ _) | (with_reducible refine Below.setCell ?_ ?_ _) | go_size))⟩
set_option maxRecDepth 100000 in
set_option maxHeartbeats 4000000 in
theorem aupd_no (p : Addr) (F : Nat → Prop) (c : Cfg) (l : Int) (L : List Int) (k d : Int) (w : World) (h : DA w p F c l L) (k0 : 0 ≤ k) (k1 : k ≤ 18446744073709551615) (d0 : -9223372036854775808 ≤ d) (d1 : d ≤ 9223372036854775807) (hk : (L.length : Int) ≤ k) :
    Calls Tryz.prog 63 #[.pointer (some p), .int .u64 k, .int .i64 d] w fun e w' => e = .returned (.int .i64 2) ∧ Below w.heap.size w w' := by
  obtain ⟨h1, h2, h3, b, g, cap, rfl, hb, hm, h4, h5, h6, rfl⟩ := h
  have hbl := size_of_heap hb
  have hgl := hm.lt
  have c0 := grd_cell hb 0 (v := .int .i64 c.bt) rfl
  have c1 := grd_cell hb 1 (v := .int .i64 c.rw) rfl
  have c2 := grd_cell hb 2 (v := .int .i64 c.wd) rfl
  have c3 := grd_cell hb 3 (v := .int .i64 c.md) rfl
  have c4 := grd_cell hb 4 (v := .int .u64 c.sd) rfl
  have c5 := grd_cell hb 5 (v := .int .i64 l) rfl
  have c6 := grd_cell hb 6 (v := .slice (some ⟨g, 0, none⟩) L.length cap) rfl
  have u1 : IntKind.u64.wrap (L.length : Int) = (L.length : Int) := by rw [IntKind.wrap_u64]; omega
  clear hb hm h3
  go_enter Tryz.func63, Tryz.ntmps63
  go_wp2
  all_goals go_ret
  all_goals exact ⟨rfl, (by repeat' (first | (with_reducible exact Below.refl _ _) | (with_reducible assumption) | (with_reducible refine below_over ?_ _ _) | (with_reducible refine Lw.below_alloc ?_ _) | (with_reducible refine Below.drew ?_) | (with_reducible refine below_drewN ?_ _) | (with_reducible refine Below.setCell ?_ ?_ _) | go_size))⟩
set_option maxRecDepth 100000 in
set_option maxHeartbeats 4000000 in
theorem aupd_mode (p : Addr) (F : Nat → Prop) (c : Cfg) (l : Int) (L : List Int) (k d : Int) (w : World) (h : DA w p F c l L) (k0 : 0 ≤ k) (k1 : k ≤ 18446744073709551615) (d0 : -9223372036854775808 ≤ d) (d1 : d ≤ 9223372036854775807) (hk : k < (L.length : Int)) (hm2 : c.md = 2 ∧ d < 0) :
    Calls Tryz.prog 63 #[.pointer (some p), .int .u64 k, .int .i64 d] w fun e w' => e = .returned (.int .i64 3) ∧ Below w.heap.size w w' := by
  obtain ⟨h1, h2, h3, b, g, cap, rfl, hb, hm, h4, h5, h6, rfl⟩ := h
  have hbl := size_of_heap hb
  have hgl := hm.lt
  have c0 := grd_cell hb 0 (v := .int .i64 c.bt) rfl
  have c1 := grd_cell hb 1 (v := .int .i64 c.rw) rfl
  have c2 := grd_cell hb 2 (v := .int .i64 c.wd) rfl
  have c3 := grd_cell hb 3 (v := .int .i64 c.md) rfl
  have c4 := grd_cell hb 4 (v := .int .u64 c.sd) rfl
  have c5 := grd_cell hb 5 (v := .int .i64 l) rfl
  have c6 := grd_cell hb 6 (v := .slice (some ⟨g, 0, none⟩) L.length cap) rfl
  have u1 : IntKind.u64.wrap (L.length : Int) = (L.length : Int) := by rw [IntKind.wrap_u64]; omega
  have hkx : ¬ (L.length : Int) ≤ k := by omega
  have hmb : (c.md == 2) = true := by simp [hm2.1]
  have hd := hm2.2
  clear hb hm h3 hm2
  go_enter Tryz.func63, Tryz.ntmps63
  go_wp2
  all_goals go_ret
  all_goals exact ⟨rfl, (by repeat' (first | (with_reducible exact Below.refl _ _) | (with_reducible assumption) | (with_reducible refine below_over ?_ _ _) | (with_reducible refine Lw.below_alloc ?_ _) | (with_reducible refine Below.drew ?_) | (with_reducible refine below_drewN ?_ _) | (with_reducible refine Below.setCell ?_ ?_ _) | go_size))⟩
set_option maxRecDepth 100000 in
set_option maxHeartbeats 4000000 in
theorem aupd_over (p : Addr) (F : Nat → Prop) (c : Cfg) (l : Int) (L : List Int) (k d : Int) (w : World) (h : DA w p F c l L) (k0 : 0 ≤ k) (k1 : k ≤ 18446744073709551615) (d0 : -9223372036854775808 ≤ d) (d1 : d ≤ 9223372036854775807) (hk : k < (L.length : Int)) (hm2 : ¬ (c.md = 2 ∧ d < 0)) (hf : Wid.fit64 (num L k + d) = false) :
    Calls Tryz.prog 63 #[.pointer (some p), .int .u64 k, .int .i64 d] w fun e w' => e = .returned (.int .i64 4) ∧ Below w.heap.size w w' := by
  obtain ⟨h1, h2, h3, b, g, cap, rfl, hb, hm, h4, h5, h6, rfl⟩ := h
  have hbl := size_of_heap hb
  have hgl := hm.lt
  have c0 := grd_cell hb 0 (v := .int .i64 c.bt) rfl
  have c1 := grd_cell hb 1 (v := .int .i64 c.rw) rfl
  have c2 := grd_cell hb 2 (v := .int .i64 c.wd) rfl
  have c3 := grd_cell hb 3 (v := .int .i64 c.md) rfl
  have c4 := grd_cell hb 4 (v := .int .u64 c.sd) rfl
  have c5 := grd_cell hb 5 (v := .int .i64 l) rfl
  have c6 := grd_cell hb 6 (v := .slice (some ⟨g, 0, none⟩) L.length cap) rfl
  obtain ⟨K, rfl⟩ : ∃ K : Nat, k = K := ⟨k.toNat, by omega⟩
  have hK : K < L.length := by omega
  obtain ⟨v, hv⟩ : ∃ v, L[K]? = some v := ⟨_, List.getElem?_eq_getElem hK⟩
  have hn : num L (K : Int) = v := by unfold num; rw [Int.toNat_natCast, hv]; rfl
  have hvb := h3.at hv
  have u1 : IntKind.u64.wrap (L.length : Int) = (L.length : Int) := by rw [IntKind.wrap_u64]; omega
  have hkx : ¬ (L.length : Int) ≤ (K : Int) := by omega
  have CA := Lib.hid (fun w => Wid.radd_any v d w hvb.1 hvb.2 d0 d1)
  have cv := hm.cell hv
  have fv := hm.frozen (0 + K)
  have hm6 := hm.set K (Wid.f64 (v + d))
  obtain ⟨ga, hga⟩ : ∃ a : Addr, (⟨g, 0, none⟩ : Addr) = a := ⟨_, rfl⟩
  rw [← Ord.add_at, hga] at cv fv hm6
  have gv : ∀ bs dd, (grow w bs dd).cell? (ga.add K) = some (.int .i64 v) := fun bs dd => cell_up cv (grow_below w bs dd)
  rw [hn] at hf
  rw [hga] at c6
  rw [hf] at CA
  have HM2 := Lib.hid hm2
  clear hb hm h3 hv hn hm6 hvb hm2 hf
  by_cases hmd : c.md = 2
  · have hmb : (c.md == 2) = true := by simp [hmd]
    have hd : ¬ d < 0 := fun h => HM2.out ⟨hmd, h⟩
    clear hmd
    go_enter Tryz.func63, Tryz.ntmps63
    go_wp2_with (go_at_call 71; (with_reducible refine (CA.out _).mono ?_); rintro e w' ⟨rfl, hb⟩; obtain ⟨bs, dd, rfl⟩ := below_grow hb; clear hb)
    all_goals go_ret
    all_goals exact ⟨rfl, (by repeat' (first | (with_reducible exact Below.refl _ _) | (with_reducible assumption) | (with_reducible refine below_over ?_ _ _) | (with_reducible refine Lw.below_alloc ?_ _) | (with_reducible refine Below.drew ?_) | (with_reducible refine below_drewN ?_ _) | (with_reducible refine Below.setCell ?_ ?_ _) | go_size))⟩
  · have hmb : (c.md == 2) = false := by simpa using hmd
    clear hmd
    go_enter Tryz.func63, Tryz.ntmps63
    go_wp2_with (go_at_call 71; (with_reducible refine (CA.out _).mono ?_); rintro e w' ⟨rfl, hb⟩; obtain ⟨bs, dd, rfl⟩ := below_grow hb; clear hb)
    all_goals go_ret
    all_goals exact ⟨rfl, (by repeat' (first | (with_reducible exact Below.refl _ _) | (with_reducible assumption) | (with_reducible refine below_over ?_ _ _) | (with_reducible refine Lw.below_alloc ?_ _) | (with_reducible refine Below.drew ?_) | (with_reducible refine below_drewN ?_ _) | (with_reducible refine Below.setCell ?_ ?_ _) | go_size))⟩
set_option maxRecDepth 100000 in
set_option maxHeartbeats 4000000 in
theorem aupd_ok (p : Addr) (F : Nat → Prop) (c : Cfg) (l : Int) (L : List Int) (k d : Int) (w : World) (h : DA w p F c l L) (k0 : 0 ≤ k) (k1 : k ≤ 18446744073709551615) (d0 : -9223372036854775808 ≤ d) (d1 : d ≤ 9223372036854775807) (hk : k < (L.length : Int)) (hm2 : ¬ (c.md = 2 ∧ d < 0)) (hf : Wid.fit64 (num L k + d) = true) :
    Calls Tryz.prog 63 #[.pointer (some p), .int .u64 k, .int .i64 d] w fun e w' => e = .returned (.int .i64 0) ∧ ∃ F', DA w' p F' c l (L.set k.toNat (num L k + d)) ∧ Kept F w w' ∧ (∀ q, F' q → F q ∨ w.heap.size ≤ q) := by
  obtain ⟨h1, h2, h3, b, g, cap, rfl, hb, hm, h4, h5, h6, rfl⟩ := h
  have hbl := size_of_heap hb
  have hgl := hm.lt
  have c0 := grd_cell hb 0 (v := .int .i64 c.bt) rfl
  have c1 := grd_cell hb 1 (v := .int .i64 c.rw) rfl
  have c2 := grd_cell hb 2 (v := .int .i64 c.wd) rfl
  have c3 := grd_cell hb 3 (v := .int .i64 c.md) rfl
  have c4 := grd_cell hb 4 (v := .int .u64 c.sd) rfl
  have c5 := grd_cell hb 5 (v := .int .i64 l) rfl
  have c6 := grd_cell hb 6 (v := .slice (some ⟨g, 0, none⟩) L.length cap) rfl
  obtain ⟨K, rfl⟩ : ∃ K : Nat, k = K := ⟨k.toNat, by omega⟩
  have hK : K < L.length := by omega
  obtain ⟨v, hv⟩ : ∃ v, L[K]? = some v := ⟨_, List.getElem?_eq_getElem hK⟩
  have hn : num L (K : Int) = v := by unfold num; rw [Int.toNat_natCast, hv]; rfl
  have hvb := h3.at hv
  have u1 : IntKind.u64.wrap (L.length : Int) = (L.length : Int) := by rw [IntKind.wrap_u64]; omega
  have hkx : ¬ (L.length : Int) ≤ (K : Int) := by omega
  have CA := Lib.hid (fun w => Wid.radd_any v d w hvb.1 hvb.2 d0 d1)
  have cv := hm.cell hv
  have fv := hm.frozen (0 + K)
  have hm6 := hm.set K (Wid.f64 (v + d))
  obtain ⟨ga, hga⟩ : ∃ a : Addr, (⟨g, 0, none⟩ : Addr) = a := ⟨_, rfl⟩
  rw [← Ord.add_at, hga] at cv fv hm6
  have gv : ∀ bs dd, (grow w bs dd).cell? (ga.add K) = some (.int .i64 v) := fun bs dd => cell_up cv (grow_below w bs dd)
  rw [hn] at hf ⊢
  rw [Int.toNat_natCast]
  have hfz := in64_fit hf
  have hff : Wid.f64 (v + d) = v + d := (Wid.fit64_yes hfz.1 (by omega)).2
  rw [hff] at CA hm6
  have gf : ∀ bs dd, (grow w bs dd).frozen? (ga.add K) = false := fun bs dd => by
    rw [← hga, Ord.add_at]
    exact (hm.up (grow_below w bs dd)).frozen _
  have HT : Hid (∀ bs dd, ∃ F', DA ((grow w bs dd).setCell (ga.add K) (.int .i64 (v + d))) ⟨b, 0, none⟩ F' c l (L.set K (v + d)) ∧ Kept (fun k => k = b ∨ k = g) w ((grow w bs dd).setCell (ga.add K) (.int .i64 (v + d))) ∧ (∀ q, F' q → (q = b ∨ q = g) ∨ w.heap.size ≤ q)) := Lib.hid (fun bs dd => by
    have hb9 := grow_below w bs dd
    have hks : Kept (fun q => q = g) (grow w bs dd) ((grow w bs dd).setCell ⟨g, 0 + K, none⟩ (.int .i64 (v + d))) := (Kept.refl (fun q => q = g) _).set (.inl rfl) _ _
    have hm9 := (hm.up hb9).set K (v + d)
    have hbb : (grow w bs dd).heap[b]? = some (.cells #[.int .i64 c.bt, .int .i64 c.rw, .int .i64 c.wd, .int .i64 c.md, .int .u64 c.sd, .int .i64 l, .slice (some ⟨g, 0, none⟩) L.length cap] 103 (0, 0)) := by rw [hb9.block b hbl]; exact hb
    have hk9 : Kept (fun k => k = b ∨ k = g) w ((grow w bs dd).setCell ⟨g, 0 + K, none⟩ (.int .i64 (v + d))) := (Kept.of_below hb9).trans (hks.mono (fun q _ e => .inr e)) (fun q hq e => e)
    rw [← hga, Ord.add_at]
    refine ⟨fun k => k = b ∨ k = g, ⟨h1, by rw [List.length_set]; exact h2, in64_set h3 K hfz.1 hfz.2, b, g, cap, rfl, ?_, hm9, by rw [List.length_set]; exact h4, h5, h6, rfl⟩, hk9, fun q hq => .inl hq⟩
    rw [List.length_set]
    exact hks.heap hbb (fun e => h6 e.symm))
  rw [hga] at c6
  rw [hf] at CA
  obtain ⟨S, hS⟩ : ∃ S, v + d = S := ⟨_, rfl⟩
  have HM2 := Lib.hid hm2
  clear hb hm h3 hv hn hm6 hvb hm2 hf hfz hff
  rw [hS] at HT ⊢
  rw [hS] at CA
  clear hS
  by_cases hmd : c.md = 2
  · have hmb : (c.md == 2) = true := by simp [hmd]
    have hd : ¬ d < 0 := fun h => HM2.out ⟨hmd, h⟩
    clear hmd
    go_enter Tryz.func63, Tryz.ntmps63
    go_wp2_with (go_at_call 71; (with_reducible refine (CA.out _).mono ?_); rintro e w' ⟨rfl, hb⟩; obtain ⟨bs, dd, rfl⟩ := below_grow hb; clear hb)
    all_goals go_ret
    all_goals exact ⟨rfl, HT.out bs dd⟩
  · have hmb : (c.md == 2) = false := by simpa using hmd
    clear hmd
    go_enter Tryz.func63, Tryz.ntmps63
    go_wp2_with (go_at_call 71; (with_reducible refine (CA.out _).mono ?_); rintro e w' ⟨rfl, hb⟩; obtain ⟨bs, dd, rfl⟩ := below_grow hb; clear hb)
    all_goals go_ret
    all_goals exact ⟨rfl, HT.out bs dd⟩
theorem aupd_any (p : Addr) (F : Nat → Prop) (c : Cfg) (l : Int) (L : List Int) (k d : Int) (w : World) (h : DA w p F c l L) (k0 : 0 ≤ k) (k1 : k ≤ 18446744073709551615) (d0 : -9223372036854775808 ≤ d) (d1 : d ≤ 9223372036854775807) :
    Calls Tryz.prog 63 #[.pointer (some p), .int .u64 k, .int .i64 d] w fun e w' => e = .returned (.int .i64 (exCode c.md L k d)) ∧ ∃ F', DA w' p F' c l (exRes c.md L k d) ∧ Kept F w w' ∧ (∀ q, F' q → F q ∨ w.heap.size ≤ q) := by
  by_cases hk : (L.length : Int) ≤ k
  · have e := ex_key (md := c.md) (d := d) hk
    rw [e.1, e.2]
    exact (aupd_no p F c l L k d w h k0 k1 d0 d1 hk).mono (fun e w' h2 => ⟨h2.1, F, h.up h2.2, Kept.of_below h2.2, fun q hq => .inl hq⟩)
  have hk2 : k < (L.length : Int) := by omega
  by_cases hm : c.md = 2 ∧ d < 0
  · have e := ex_mode (md := c.md) (d := d) hk2 hm
    rw [e.1, e.2]
    exact (aupd_mode p F c l L k d w h k0 k1 d0 d1 hk2 hm).mono (fun e w' h2 => ⟨h2.1, F, h.up h2.2, Kept.of_below h2.2, fun q hq => .inl hq⟩)
  cases hf : Wid.fit64 (num L k + d) with
  | true =>
    have e := ex_yes (md := c.md) hk2 hm hf
    rw [e.1, e.2]
    exact aupd_ok p F c l L k d w h k0 k1 d0 d1 hk2 hm hf
  | false =>
    have e := ex_over (md := c.md) hk2 hm hf
    rw [e.1, e.2]
    exact (aupd_over p F c l L k d w h k0 k1 d0 d1 hk2 hm hf).mono (fun e w' h2 => ⟨h2.1, F, h.up h2.2, Kept.of_below h2.2, fun q hq => .inl hq⟩)
theorem i64_info : (Tryz.prog.info? 2).map (fun i => (i.zero, i.size, i.bytes)) = some (some (.int .i64 0), 1, 8) := by kernel_rfl
theorem i64s_u : Tryz.prog.underlying 48 = some (.slice 2) := by kernel_rfl
set_option maxRecDepth 100000 in
theorem anew_any (c : Cfg) (l : Int) (n : Nat) (w : World) (h : c.Ok) (hn : n ≤ 128) :
    Calls Tryz.prog 57 #[.agg #[.int .i64 c.bt, .int .i64 c.rw, .int .i64 c.wd, .int .i64 c.md, .int .u64 c.sd], .int .i64 l, .int .u64 (n : Int)] w fun e w' => ∃ (p : Addr) (F : Nat → Prop), e = .returned (.pointer (some p)) ∧ DA w' p F c l (List.replicate n 0) ∧ (∀ k, F k → w.heap.size ≤ k) ∧ Below w.heap.size w w' := by
  obtain ⟨i0, hi, hz0, hz1, hz2⟩ := info_parts i64_info
  have hmk : ∀ w, (Instr.makeSlice 48 (.int .u64 (n : Int)) (.int .u64 (n : Int))).run Tryz.prog w = .ok (.slice (some ⟨w.heap.size, 0, none⟩) n n) (w.alloc (.cells (madeCells #[.int .i64 0] n) 2)) := by
    intro w
    have h := run_make (P := Tryz.prog) w 48 2 i0 (.int .i64 0) i64s_u hi hz0 .u64 .u64 n n (by omega) (Int.le_refl _) (by rw [hz2]; omega) (by omega)
    rw [hz1] at h
    simpa [Value.cells] using h
  have hmin : ∀ w : World, (Builtin.min_ #[22, 22] 22 #[.int .u64 (n : Int), .int .u64 128]).run Tryz.prog w = .ok (.int .u64 (n : Int)) w := fun w => by
    have e : ¬ (128 : Int) < (n : Int) := by omega
    simp [Builtin.min_, Builtin.min2, e]
  have e128 : ¬ (128 : Int) < (n : Int) := by omega
  have hmn : (if (128 : Int) < (n : Int) then (128 : Int) else (n : Int)) = (n : Int) := if_neg e128
  clear hi hz0 hz1 hz2
  go_enter Tryz.func57, Tryz.ntmps57
  go_upto_region 1 with fail
  go_region
  all_goals go_wp2
  all_goals go_ret
  have hm0 := Grd.mid_made (w.alloc (.cells #[.int .i64 c.bt, .int .i64 c.rw, .int .i64 c.wd, .int .i64 c.md, .int .u64 c.sd] 24)) n 2
  rw [World.size_alloc] at hm0
  have hn0 := heap_alloc_new ((w.alloc (.cells #[.int .i64 c.bt, .int .i64 c.rw, .int .i64 c.wd, .int .i64 c.md, .int .u64 c.sd] 24)).alloc (.cells (madeCells #[.int .i64 0] n) 2)) (.cells #[.int .i64 c.bt, .int .i64 c.rw, .int .i64 c.wd, .int .i64 c.md, .int .u64 c.sd, .int .i64 l, .slice (some ⟨w.heap.size + 1, 0, none⟩) n n] 103)
  rw [World.size_alloc, World.size_alloc] at hn0
  refine ⟨_, rfl, fun k => k = w.heap.size + 1 + 1 ∨ k = w.heap.size + 1, ⟨h, by simp; omega, fun v hv => by have := (List.mem_replicate.1 hv).2; omega, _, w.heap.size + 1, n, rfl, ?_, hm0.up (by repeat' (first | (with_reducible exact Below.refl _ _) | (with_reducible assumption) | (with_reducible refine below_over ?_ _ _) | (with_reducible refine Lw.below_alloc ?_ _) | (with_reducible refine Below.drew ?_) | (with_reducible refine below_drewN ?_ _) | (with_reducible refine Below.setCell ?_ ?_ _) | go_size)), by simp, by unfold maxLen; omega, by omega, rfl⟩, fun k hk => by omega, (by repeat' (first | (with_reducible exact Below.refl _ _) | (with_reducible assumption) | (with_reducible refine below_over ?_ _ _) | (with_reducible refine Lw.below_alloc ?_ _) | (with_reducible refine Below.drew ?_) | (with_reducible refine below_drewN ?_ _) | (with_reducible refine Below.setCell ?_ ?_ _) | go_size))⟩
  rw [List.length_replicate]
  exact hn0
set_option maxRecDepth 100000 in
set_option maxHeartbeats 4000000 in
theorem acopy_any (p : Addr) (F : Nat → Prop) (c : Cfg) (l : Int) (L : List Int) (w : World) (h : DA w p F c l L) :
    Calls Tryz.prog 69 #[.pointer (some p)] w fun e w' => ∃ (q : Addr) (Q : Nat → Prop), e = .returned (.pointer (some q)) ∧ DA w' q Q c l L ∧ (∀ k, Q k → w.heap.size ≤ k) ∧ Below w.heap.size w w' := by
  obtain ⟨i0, hi, hz0, hz1, hz2⟩ := info_parts i64_info
  obtain ⟨h1, h2, h3, b, g, cap, rfl, hb, hm, h4, h5, h6, rfl⟩ := h
  have hbl := size_of_heap hb
  have hgl := hm.lt
  have c0 := grd_cell hb 0 (v := .int .i64 c.bt) rfl
  have c1 := grd_cell hb 1 (v := .int .i64 c.rw) rfl
  have c2 := grd_cell hb 2 (v := .int .i64 c.wd) rfl
  have c3 := grd_cell hb 3 (v := .int .i64 c.md) rfl
  have c4 := grd_cell hb 4 (v := .int .u64 c.sd) rfl
  have c5 := grd_cell hb 5 (v := .int .i64 l) rfl
  have c6 := grd_cell hb 6 (v := .slice (some ⟨g, 0, none⟩) L.length cap) rfl
  have HRD := Lib.hid hm.rd
  have H3 := Lib.hid (And.intro h1 h3)
  unfold maxLen at h5
  clear hb hm h1 h3
  go_enter Tryz.func69, Tryz.ntmps69
  go_upto_region 1 with fail
  go_region_held3 (fun w' => w'.cell? ⟨b, 0, none⟩ = some (.int .i64 c.bt) ∧ w'.cell? ⟨b, 1, none⟩ = some (.int .i64 c.rw) ∧ w'.cell? ⟨b, 2, none⟩ = some (.int .i64 c.wd) ∧ w'.cell? ⟨b, 3, none⟩ = some (.int .i64 c.md) ∧ w'.cell? ⟨b, 4, none⟩ = some (.int .u64 c.sd) ∧ w'.cell? ⟨b, 5, none⟩ = some (.int .i64 l) ∧ w'.cell? ⟨b, 6, none⟩ = some (.slice (some ⟨g, 0, none⟩) L.length cap)) (first | (refine ⟨?_, ?_, ?_, ?_, ?_, ?_, ?_⟩ <;> (first | (with_reducible assumption) | (with_reducible refine cell_up c0 ?_) | (with_reducible refine cell_up c1 ?_) | (with_reducible refine cell_up c2 ?_) | (with_reducible refine cell_up c3 ?_) | (with_reducible refine cell_up c4 ?_) | (with_reducible refine cell_up c5 ?_) | (with_reducible refine cell_up c6 ?_)) <;> (repeat' (first | (with_reducible exact Below.refl _ _) | (with_reducible assumption) | (with_reducible refine below_over ?_ _ _) | (with_reducible refine Lw.below_alloc ?_ _) | (with_reducible refine Below.drew ?_) | (with_reducible refine below_drewN ?_ _) | (with_reducible refine Below.setCell ?_ ?_ _) | go_size)))) (first
    | (refine app_step .i64 rfl _ _ 48 rfl w.heap.size 2 i0 8 i64s_u hi hz0 hz1 hz2 (.slice (some ⟨w.heap.size, 0, none⟩) 0 0) 0 [] rfl (own_empty w.drew _ _ _ (Nat.le_refl _)) (fun h => by cases h) (some ⟨g, 0, none⟩) L.length cap L rfl (fun h => by cases h) rfl (HRD.out.up (by repeat' (first | (with_reducible exact Below.refl _ _) | (with_reducible assumption) | (with_reducible refine below_over ?_ _ _) | (with_reducible refine Lw.below_alloc ?_ _) | (with_reducible refine Below.drew ?_) | (with_reducible refine below_drewN ?_ _) | (with_reducible refine Below.setCell ?_ ?_ _) | go_size))) (by unfold maxLen; omega) (by omega) (by simp) ?_; intro A4 cap4 w4 hown4 hgrow4 hrd4 hcap6 hcap7; have hb4 : Below w.heap.size w w4 := app_below2 (by repeat' (first | (with_reducible exact Below.refl _ _) | (with_reducible assumption) | (with_reducible refine below_over ?_ _ _) | (with_reducible refine Lw.below_alloc ?_ _) | (with_reducible refine Below.drew ?_) | (with_reducible refine below_drewN ?_ _) | (with_reducible refine Below.setCell ?_ ?_ _) | go_size)) hgrow4 (Nat.le_refl _); (try simp only [Nat.zero_add, List.nil_append] at hown4 hcap6); (try simp only [Nat.zero_add]); have HO4 := Lib.hid hown4; have HB4 := Lib.hid hb4; have HC4 := Lib.hid (And.intro hcap6 hcap7); clear hown4 hgrow4 hrd4 hcap6 hcap7))
  all_goals go_wp2
  all_goals go_ret
  obtain ⟨g4, rfl, hg4, hm4⟩ := Ord.mid_own HO4.out
  have hn0 := heap_alloc_new w4 (.cells #[.int .i64 c.bt, .int .i64 c.rw, .int .i64 c.wd, .int .i64 c.md, .int .u64 c.sd, .int .i64 l, .slice (some ⟨g4, 0, none⟩) L.length cap4] 103)
  have hl4 := hm4.lt
  have hs4 := HB4.out.size
  have hb4 := HB4.out
  refine ⟨_, fun k => k = w4.heap.size ∨ k = g4, rfl, ⟨H3.out.1, h2, H3.out.2, _, g4, cap4, rfl, hn0, hm4.up (Lw.below_alloc (Below.refl _ _) _), HC4.out.1, HC4.out.2, by omega, rfl⟩, fun k hk => ?_, hb4.alloc hs4 _⟩
  rcases hk with rfl | rfl <;> omega
end Go.Proofs.YtiblpdjehknbcaaGreat.Exa
/- The walk of the document's own Join for layer 12. Printed by wip/gen/exajoin.py. -/
namespace Go.Proofs.YtiblpdjehknbcaaGreat.Exa
open Go Go.RowKit Lw Grd Lin Con Shp Sk
set_option linter.unusedVariables false
set_option linter.unusedSimpArgs false
theorem row_no {s : Int} {L M : List Int} {k : Nat} {x y : Int} (hx : L[k]? = some x) (hy : M[k]? = some y) (h : Wid.fit64 (x + s * y) = false) : (rowS s L M).all Wid.fit64 = false := by
  have hm : x + s * y ∈ rowS s L M := List.mem_of_getElem? (i := k) (by unfold rowS; rw [List.getElem?_zipWith, hx, hy])
  rw [List.all_eq_false]
  exact ⟨_, hm, by simp [h]⟩
theorem in64_all {zs : List Int} (h : zs.all Wid.fit64 = true) : In64 zs := fun v hv => by
  rw [List.all_eq_true] at h
  exact in64_fit (h v hv)
theorem own_cap {w : World} {base : Nat} {e : TypeId} {g n cap : Nat} {xs : List Value} (h : w.ownsRow base e 1 (.slice (some ⟨g, 0, none⟩) n cap) n xs) : n ≤ cap ∧ cap ≤ maxLen := by
  rcases h.2 with ⟨h1, _⟩ | ⟨g1, cap2, cur, h3, hbase, hh, hl, hm, hx, hy⟩
  · cases h1
  · injection h3 with _ _ h3
    subst h3
    exact ⟨hl, hm⟩
end Go.Proofs.YtiblpdjehknbcaaGreat.Exa
/- What the statements of layer 12 lean on: the level that is picked, and what must be in any case. Printed by wip/gen/exalawa.py. -/
namespace Go.Proofs.YtiblpdjehknbcaaGreat.Exa
open Go Go.RowKit Lw Grd Lin Con Shp Sk
set_option linter.unusedVariables false
set_option linter.unusedSimpArgs false
theorem lit2 {w : World} {g : Nat} {x y : Int} (h0 : w.cell? ⟨g, 0, none⟩ = some (.int .i64 x)) (h1 : w.cell? ⟨g, 1, none⟩ = some (.int .i64 y)) : Rd .i64 w (some ⟨g, 0, none⟩) [x, y] := by
  intro j v hj
  match j, hj with
  | 0, hj => cases hj; exact ⟨_, rfl, h0⟩
  | 1, hj => cases hj; exact ⟨_, rfl, by simpa [Addr.add] using h1⟩
theorem exact_top {c : Cfg} (hr : IsRight c) : exactB c c.bt = true := by
  refine decide_eq_true ?_
  rw [keys_top hr]
  exact ⟨by omega, hr.2.2.2.2.1⟩
theorem exact_len {c : Cfg} {l : Int} (h : exactB c l = true) : 1 ≤ keys c l ∧ keys c l ≤ 128 := by
  have h1 := of_decide_eq_true h
  have h2 := (keys_pos.1 h1.1).1.2.2.2.2.2.1
  omega
def eA : Cfg := ⟨2, 1, 2, 1, 0⟩
theorem have_then {P Q : Prop} (h : P) (k : P → Q) : Q := k h
theorem eA_ok : eA.Ok := by constructor <;> decide
theorem eA_1 : exactB eA 1 = true := by decide
theorem eA_0 : exactB eA 0 = false := by decide
theorem eA_k : keys eA 1 = 2 := by decide
theorem n_yes (w : World) : Calls Tryz.prog 54 #[.agg #[.int .i64 2, .int .i64 1, .int .i64 2, .int .i64 1, .int .u64 0], .int .i64 1] w fun e w' => ∃ (p : Addr) (F : Nat → Prop), e = .returned (.tuple #[.pointer (some p), .int .i64 0]) ∧ EX w' p F eA 1 [0, 0] ∧ (∀ k, F k → w.heap.size ≤ k) ∧ Below w.heap.size w w' := by
  have C := enew_yes eA 1 w eA_ok (by omega) (by omega) eA_1
  rw [eA_k] at C
  exact C
theorem n_no (w : World) : Calls Tryz.prog 54 #[.agg #[.int .i64 2, .int .i64 1, .int .i64 2, .int .i64 1, .int .u64 0], .int .i64 0] w fun e w' => e = .returned (.tuple #[.pointer none, .int .i64 1]) ∧ Below w.heap.size w w' := enew_no eA 0 w eA_ok (by omega) (by omega) eA_0
theorem u1 : exCode eA.md [0, 0] 1 5 = 0 ∧ exRes eA.md [0, 0] 1 5 = [0, 5] := by decide
theorem u2 : exCode eA.md [0, 5] 2 5 = 2 ∧ exRes eA.md [0, 5] 2 5 = [0, 5] := by decide
theorem up_any (p : Addr) (F : Nat → Prop) (L M : List Int) (k d x : Int) (w : World) (h : EX w p F eA 1 L) (k0 : 0 ≤ k) (k1 : k ≤ 18446744073709551615) (d0 : -9223372036854775808 ≤ d) (d1 : d ≤ 9223372036854775807) (hu : exCode eA.md L k d = x ∧ exRes eA.md L k d = M) :
    Calls Tryz.prog 124 #[.pointer (some p), .int .u64 k, .int .i64 d] w fun e w' => e = .returned (.int .i64 x) ∧ ∃ F', EX w' p F' eA 1 M ∧ Kept F w w' ∧ (∀ q, F' q → F q ∨ w.heap.size ≤ q) := by
  have C := eupd_any p F eA 1 L k d w h k0 k1 d0 d1
  rw [hu.1, hu.2] at C
  exact C
theorem pt_any (p : Addr) (F : Nat → Prop) (w : World) (h : EX w p F eA 1 [0, 5]) : Calls Tryz.prog 123 #[.pointer (some p), .int .u64 1] w fun e w' => e = .returned (.tuple #[.int .i64 5, .int .i64 0]) ∧ Below w.heap.size w w' :=
  epoint_yes p F eA 1 [0, 5] 1 w h (by omega) (by omega) (by decide)
end Go.Proofs.YtiblpdjehknbcaaGreat.Exa
/- What several laws of layer 12 share. Printed by wip/gen/exalaws.py. -/
namespace Go.Proofs.YtiblpdjehknbcaaGreat.Exa
open Go Go.RowKit Lw Grd Lin Con Shp Sk
set_option linter.unusedVariables false
set_option linter.unusedSimpArgs false
theorem lst_int64_c : Tryz.prog.cellsOf 2 = 1 := by kernel_rfl
set_option maxRecDepth 100000 in
theorem open_list_int64 {H : Type} {enc : TypeId × Value → H} {W : World} {v : Value} {d : DataW H} {p : List MemPlace} {base : Nat} (hv : Value.okWide Tryz.prog W .any base 48 v)
    (h : DataW.Trod enc Tryz.prog W 0 (fun _ => true) true 48 v d p) :
    ∃ (A : Option Addr) (n cap : Nat) (zs : List Int), v = .slice A n cap ∧ (A = none → n = 0 ∧ cap = 0) ∧ n ≤ cap ∧ cap ≤ maxLen ∧ Rd .i64 W A zs ∧ zs.length = n ∧ (∀ v ∈ zs, -9223372036854775808 ≤ v ∧ v ≤ 9223372036854775807) := by
  obtain ⟨a0, len, cap, rfl⟩ := Go.WideShapes.okWide_slice Tryz.underlying48 hv
  obtain ⟨fuel, hf⟩ := h
  rcases Go.ChangeShapes.open_ints Tryz.underlying48 Tryz.underlying2 lst_int64_c hf with ⟨hcs, _⟩ | ⟨a, len', cap', zs, hcs, _, hl, hm, hz, _, hcell, hwz⟩
  · simp [Value.cells] at hcs
    obtain ⟨rfl, rfl, rfl⟩ := hcs
    exact ⟨none, 0, 0, [], rfl, fun _ => ⟨rfl, rfl⟩, Nat.le_refl _, by simp, rd_nil _ _ _, rfl, fun v h => by simp at h⟩
  · simp [Value.cells] at hcs
    obtain ⟨rfl, rfl, rfl⟩ := hcs
    have hz2 : zs.length = cap := by simpa using hz
    refine ⟨some a, len, cap, zs.take len, rfl, (fun h => by cases h), hl, hm, ?_, by simp; omega, ?_⟩
    · intro k v hk
      rw [List.getElem?_take] at hk
      split at hk
      · refine ⟨a, rfl, ?_⟩
        rw [hcell k (by omega)]
        simp [hk]
      · cases hk
    · intro v hv
      exact Lw.wf_i64 (hwz v (List.mem_of_mem_take hv))
theorem arr2_int_e : Tryz.prog.cellsOf 3 = 1 := by kernel_rfl
theorem arr2_int_k : Tryz.prog.underlying 3 = some (.int .i64) := by kernel_rfl
theorem arr2_int_l {α : Type} (T : Array α) (h : T.size = 2) : ∃ x0 x1 : α, T = #[x0, x1] := by
  obtain ⟨l⟩ := T
  match l, h with
  | [x0, x1], _ => exact ⟨x0, x1, rfl⟩
theorem Have.perm {w0 w : World} {ts us : List Thing} (hp : ts.Perm us) : Have w0 w ts → Have w0 w us := by
  induction hp with
  | nil => exact fun h => h
  | cons t hp ih =>
    intro h
    exact ⟨h.1, h.2.1, fun u hu => h.2.2.1 u (hp.mem_iff.2 hu), ih h.2.2.2⟩
  | swap a b l =>
    intro h
    obtain ⟨h1, h2, h3, h4, h5, h6, h7⟩ := h
    exact ⟨h4, h5, fun u hu => by
      rcases List.mem_cons.1 hu with rfl | hu
      · exact fun k hk hk2 => h3 a (by simp) k hk2 hk
      · exact h6 u hu, h1, h2, fun u hu => h3 u (by simp [hu]), h7⟩
  | trans _ _ ih1 ih2 => exact fun h => ih2 (ih1 h)
abbrev Opk := Int × Int × Int
/-- A row of ops, handed in. -/
structure OpkV (w : World) (A : Option Addr) (n c : Nat) (qs : List Opk) : Prop where
  nil : A = none → n = 0 ∧ c = 0
  nc : n ≤ c
  cm : c ≤ maxLen
  len : qs.length = n
  each : ∀ (i : Nat) q, qs[i]? = some q → ∃ a, A = some a ∧ w.cell? (a.add (i * 3)) = some (.int .i64 (q.1)) ∧ w.cell? (a.add (i * 3 + 1)) = some (.int .u64 (q.2.1)) ∧ w.cell? (a.add (i * 3 + 2)) = some (.int .i64 (q.2.2)) ∧ (-9223372036854775808 ≤ (q.1) ∧ (q.1) ≤ 9223372036854775807) ∧ (0 ≤ (q.2.1) ∧ (q.2.1) ≤ 18446744073709551615) ∧ (-9223372036854775808 ≤ (q.2.2) ∧ (q.2.2) ≤ 9223372036854775807)
theorem OpkV.at {w : World} {A : Option Addr} {n c : Nat} {qs : List Opk} (h : OpkV w A n c qs) {i : Nat} {q : Opk} (hq : qs[i]? = some q) : ∃ (a : Addr) (g o : Nat), A = some a ∧ a.add (i * 3) = ⟨g, o, none⟩ ∧ w.cell? ⟨g, o, none⟩ = some (.int .i64 q.1) ∧ w.cell? ⟨g, o + 1, none⟩ = some (.int .u64 q.2.1) ∧ w.cell? ⟨g, o + 2, none⟩ = some (.int .i64 q.2.2) ∧ (0 ≤ q.2.1 ∧ q.2.1 ≤ 18446744073709551615) ∧ (-9223372036854775808 ≤ q.2.2 ∧ q.2.2 ≤ 9223372036854775807) := by
  obtain ⟨a, e, h1, h2, h3, _, h5, h6⟩ := h.each i q hq
  rw [← add_add'] at h2 h3
  have hs : (a.add (i * 3)).spot = none := by
    unfold World.cell? at h1
    split at h1
    · split at h1
      · cases h1
      · rename_i hs; simpa using hs
    · cases h1
  obtain ⟨ad, had⟩ : ∃ ad, a.add (i * 3) = ad := ⟨_, rfl⟩
  rw [had] at h1 h2 h3 hs
  obtain ⟨g, o, sp⟩ := ad
  simp only at hs
  subst hs
  rw [Ord.add_at] at h2 h3
  exact ⟨a, g, o, e, had, h1, h2, h3, h5, h6⟩
theorem three_boxs (w : World) (e1 e2 e3 : TypeId) (v1 v2 v3 : Array Value) : Have w (((w.alloc (.cells v1 e1)).alloc (.cells v2 e2)).alloc (.cells v3 e3)) [boxT (w.heap.size + 1 + 1) e3 v3, boxT (w.heap.size + 1) e2 v2, boxT w.heap.size e1 v1] := by
  refine (two_boxs w e1 e2 v1 v2).push (boxT (w.heap.size + 1 + 1) e3 v3) (Lw.below_alloc (Below.refl _ _) _) ?_ (fun k hk => ?_)
  · have h := heap_alloc_new ((w.alloc (.cells v1 e1)).alloc (.cells v2 e2)) (.cells v3 e3)
    rw [World.size_alloc, World.size_alloc] at h
    exact h
  · rw [World.size_alloc, World.size_alloc]
    exact Nat.le_of_eq hk.symm
theorem zero_num (n : Nat) (k : Int) : num (List.replicate n 0) k = 0 := by
  unfold num
  rw [List.getElem?_replicate]
  split <;> rfl
theorem one_up {md : Int} {n : Nat} {d : Int} (hn : 1 ≤ n) (d0 : 0 ≤ d) (d1 : d ≤ 100) : exCode md (List.replicate n 0) 0 d = 0 ∧ exRes md (List.replicate n 0) 0 d = (List.replicate n 0).set 0 d := by
  have h := ex_yes (md := md) (L := List.replicate n 0) (k := 0) (d := d) (by rw [List.length_replicate]; omega) (fun h => by omega) (by rw [zero_num]; exact (Wid.fit64_yes (by omega) (by omega)).1)
  rw [zero_num, Int.zero_add] at h
  exact h
theorem one_rows (a b : Int) (m : Nat) : rowS 1 ((List.replicate (m + 1) 0).set 0 a) ((List.replicate (m + 1) 0).set 0 b) = (a + b) :: List.replicate m 0 := by
  unfold rowS
  rw [List.replicate_succ, List.set_cons_zero, List.set_cons_zero, List.zipWith_cons_cons]
  simp
theorem one_join {n : Nat} {a b : Int} (hn : 1 ≤ n) (a0 : 0 ≤ a) (a1 : a ≤ 100) (b0 : 0 ≤ b) (b1 : b ≤ 100) : exJ 1 ((List.replicate n 0).set 0 a) ((List.replicate n 0).set 0 b) = 0 ∧ num (exM 1 ((List.replicate n 0).set 0 a) ((List.replicate n 0).set 0 b)) 0 = a + b ∧ (exM 1 ((List.replicate n 0).set 0 a) ((List.replicate n 0).set 0 b)).length = n := by
  obtain ⟨m, rfl⟩ : ∃ m, n = m + 1 := ⟨n - 1, by omega⟩
  have hf : ((a + b) :: List.replicate m 0).all Wid.fit64 = true := by
    rw [List.all_eq_true]
    intro z hz
    rcases List.mem_cons.1 hz with rfl | hz
    · exact (Wid.fit64_yes (by omega) (by omega)).1
    · rw [(List.mem_replicate.1 hz).2]
      decide
  unfold exJ exM
  rw [one_rows, if_pos hf, if_pos hf]
  exact ⟨rfl, rfl, by simp⟩
theorem DA.ptr {w : World} {p : Addr} {F : Nat → Prop} {c : Cfg} {l : Int} {L : List Int} (h : DA w p F c l L) : ∃ (b g cap : Nat), p = ⟨b, 0, none⟩ ∧ w.cell? ⟨b, 6, none⟩ = some (.slice (some ⟨g, 0, none⟩) L.length cap) ∧ Ord.Mid w g 0 L := by
  obtain ⟨h1, h2, h3, b, g, cap, rfl, hb, hm, h4, h5, h6, rfl⟩ := h
  exact ⟨b, g, cap, rfl, grd_cell hb 6 rfl, hm⟩
theorem mid_ap4 {w0 w : World} {g : Nat} {zs : List Int} {t1 t2 t3 : Thing} {q : Addr} {G : Nat → Prop} {c : Cfg} {l : Int} {M : List Int} {ts : List Thing} (h : Have w0 w (midT g zs :: t1 :: t2 :: t3 :: exT q G c l M :: ts)) : ¬ G g := h.2.2.1 (exT q G c l M) (by simp) g rfl
def ptV (L : List Int) (k : Int) : Int := if (L.length : Int) ≤ k then 0 else num L k
def ptC (L : List Int) (k : Int) : Int := if (L.length : Int) ≤ k then 2 else 0
theorem epoint_any (p : Addr) (F : Nat → Prop) (c : Cfg) (l : Int) (L : List Int) (k : Int) (w : World) (h : EX w p F c l L) (k0 : 0 ≤ k) (k1 : k ≤ 18446744073709551615) :
    Calls Tryz.prog 123 #[.pointer (some p), .int .u64 k] w fun e w' => e = .returned (.tuple #[.int .i64 (ptV L k), .int .i64 (ptC L k)]) ∧ Below w.heap.size w w' := by
  unfold ptV ptC
  by_cases hk : (L.length : Int) ≤ k
  · rw [if_pos hk, if_pos hk]
    exact epoint_no p F c l L k w h k0 k1 hk
  · rw [if_neg hk, if_neg hk]
    exact epoint_yes p F c l L k w h k0 k1 (by omega)
theorem apoint_any (p : Addr) (F : Nat → Prop) (c : Cfg) (l : Int) (L : List Int) (k : Int) (w : World) (h : DA w p F c l L) (k0 : 0 ≤ k) (k1 : k ≤ 18446744073709551615) :
    Calls Tryz.prog 77 #[.pointer (some p), .int .u64 k] w fun e w' => e = .returned (.tuple #[.int .i64 (ptV L k), .int .i64 (ptC L k)]) ∧ Below w.heap.size w w' := by
  unfold ptV ptC
  by_cases hk : (L.length : Int) ≤ k
  · rw [if_pos hk, if_pos hk]
    exact apoint_no p F c l L k w h k0 k1 hk
  · rw [if_neg hk, if_neg hk]
    exact apoint_yes p F c l L k w h k0 k1 (by omega)
theorem plays_perm (q r o p c x : Thing) : [q, r, o, p, c, x].Perm [r, p, q, o, c, x] :=
  ((List.perm_append_comm (l₁ := [q]) (l₂ := [r])).append_right [o, p, c, x]).trans (List.Perm.cons r ((List.perm_append_comm (l₁ := [q, o]) (l₂ := [p])).append_right [c, x]))
end Go.Proofs.YtiblpdjehknbcaaGreat.Exa
/- The walks of package level (the code's): a level is an interface value that holds a pointer to an array or to a sketch. Printed by wip/gen/levcode.py. -/
namespace Go.Proofs.YtiblpdjehknbcaaGreat.Lev
open Go Go.RowKit Lw Grd Lin Con Shp Sk Exa
set_option linter.unusedVariables false
set_option linter.unusedSimpArgs false
theorem ta_AA (w : World) (p : Addr) : (Instr.typeAssert (.iface 117 (.pointer (some p))) 75 117 true).run Tryz.prog w = .ok (.tuple #[.pointer (some p), .bool true]) w := by kernel_rfl
theorem ta_AS (w : World) (p : Addr) : (Instr.typeAssert (.iface 117 (.pointer (some p))) 75 120 true).run Tryz.prog w = .ok (.tuple #[.pointer none, .bool false]) w := by kernel_rfl
theorem ta_SS (w : World) (p : Addr) : (Instr.typeAssert (.iface 120 (.pointer (some p))) 75 120 true).run Tryz.prog w = .ok (.tuple #[.pointer (some p), .bool true]) w := by kernel_rfl
theorem ta_SA (w : World) (p : Addr) : (Instr.typeAssert (.iface 120 (.pointer (some p))) 75 117 true).run Tryz.prog w = .ok (.tuple #[.pointer none, .bool false]) w := by kernel_rfl
theorem ta_S1 (w : World) (p : Addr) : (Instr.typeAssert (.iface 120 (.pointer (some p))) 75 120 false).run Tryz.prog w = .ok (.pointer (some p)) w := by kernel_rfl
theorem ta_A1 (w : World) (p : Addr) : (Instr.typeAssert (.iface 117 (.pointer (some p))) 75 117 false).run Tryz.prog w = .ok (.pointer (some p)) w := by kernel_rfl
theorem ta_NA (w : World) : (Instr.typeAssert (.nilIface) 75 117 true).run Tryz.prog w = .ok (.tuple #[.pointer none, .bool false]) w := by kernel_rfl
theorem ta_NS (w : World) : (Instr.typeAssert (.nilIface) 75 120 true).run Tryz.prog w = .ok (.tuple #[.pointer none, .bool false]) w := by kernel_rfl
set_option maxRecDepth 100000 in
set_option maxHeartbeats 4000000 in
theorem vnew_A (c : Cfg) (l : Int) (w : World) (h : c.Ok) (l0 : -9223372036854775808 ≤ l) (l1 : l ≤ 9223372036854775807) (hx : exactB c l = true) :
    Calls Tryz.prog 30 #[.agg #[.int .i64 c.bt, .int .i64 c.rw, .int .i64 c.wd, .int .i64 c.md, .int .u64 c.sd], .int .i64 l] w fun e w' => ∃ (p : Addr) (F : Nat → Prop), e = .returned (.tuple #[.iface 117 (.pointer (some p)), .int .i64 0]) ∧ EX w' p F c l (List.replicate (keys c l).toNat 0) ∧ (∀ k, F k → w.heap.size ≤ k) ∧ Below w.heap.size w w' := by
  have hk : 1 ≤ keys c l := (of_decide_eq_true hx).1
  have CK := Lib.hid (fun w => keys_any c l w h l0 l1)
  have CX := Lib.hid (fun w => exact_any c l w h l0 l1)
  have hkb : (keys c l == 0) = false := by simp; omega
  rw [hx] at CX
  have CN := Lib.hid (fun w => enew_yes c l w h l0 l1 hx)
  obtain ⟨K, hK⟩ : ∃ x, keys c l = x := ⟨_, rfl⟩
  rw [hK] at CK hkb
  have HBX : Hid (Have w (w.alloc (.cells #[.int .i64 c.bt, .int .i64 c.rw, .int .i64 c.wd, .int .i64 c.md, .int .u64 c.sd] 24)) [boxT w.heap.size 24 #[.int .i64 c.bt, .int .i64 c.rw, .int .i64 c.wd, .int .i64 c.md, .int .u64 c.sd]]) := Lib.hid (box_new w _ _)
  clear hx h hk hK
  go_enter Tryz.func30, Tryz.ntmps30
  go_wp2_with (first
    | (go_at_call 32; (with_reducible refine (CK.out _).mono ?_); rintro e w1 ⟨rfl, hb9⟩; have HV1 := Lib.hid (HBX.out.up hb9); obtain ⟨x0, x1, x2, x3, x4⟩ := box5 HV1.out.i0; clear hb9)
    | (go_at_call 53; (with_reducible refine (CX.out _).mono ?_); rintro e w2 ⟨rfl, hb9⟩; clear x0 x1 x2 x3 x4; have HV2 := Lib.hid (HV1.out.up hb9); obtain ⟨x0, x1, x2, x3, x4⟩ := box5 HV2.out.i0; clear hb9)
    | (go_at_call 54; (with_reducible refine (CN.out _).mono ?_); rintro e w3 ⟨p, F, rfl, h1, h2, hb9⟩; have H1 := Lib.hid h1; have H2 : Hid (∀ k, F k → w.heap.size ≤ k) := Lib.hid (fun k hk => Nat.le_trans HV2.out.below.size (h2 k hk)); have HB2 := Lib.hid (below_call HV2.out.below hb9 (Nat.le_refl _)); clear h1 h2 hb9))
  go_ret2
  exact ⟨p, F, rfl, H1.out, H2.out, HB2.out⟩
set_option maxRecDepth 100000 in
set_option maxHeartbeats 4000000 in
theorem vnew_S (c : Cfg) (l : Int) (w : World) (h : c.Ok) (l0 : -9223372036854775808 ≤ l) (l1 : l ≤ 9223372036854775807) (hk : 1 ≤ keys c l) (hx : exactB c l = false) :
    Calls Tryz.prog 30 #[.agg #[.int .i64 c.bt, .int .i64 c.rw, .int .i64 c.wd, .int .i64 c.md, .int .u64 c.sd], .int .i64 l] w fun e w' => ∃ (p : Addr) (F : Nat → Prop), e = .returned (.tuple #[.iface 120 (.pointer (some p)), .int .i64 0]) ∧ SK w' p F c l (zerosL (rws c) (wds c)) ∧ (∀ k, F k → w.heap.size ≤ k) ∧ Below w.heap.size w w' := by
  have CK := Lib.hid (fun w => keys_any c l w h l0 l1)
  have CX := Lib.hid (fun w => exact_any c l w h l0 l1)
  have hkb : (keys c l == 0) = false := by simp; omega
  rw [hx] at CX
  have CN := Lib.hid (fun w => snew_yes c l w h l0 l1 hk)
  obtain ⟨K, hK⟩ : ∃ x, keys c l = x := ⟨_, rfl⟩
  rw [hK] at CK hkb
  have HBX : Hid (Have w (w.alloc (.cells #[.int .i64 c.bt, .int .i64 c.rw, .int .i64 c.wd, .int .i64 c.md, .int .u64 c.sd] 24)) [boxT w.heap.size 24 #[.int .i64 c.bt, .int .i64 c.rw, .int .i64 c.wd, .int .i64 c.md, .int .u64 c.sd]]) := Lib.hid (box_new w _ _)
  clear hx h hk hK
  go_enter Tryz.func30, Tryz.ntmps30
  go_wp2_with (first
    | (go_at_call 32; (with_reducible refine (CK.out _).mono ?_); rintro e w1 ⟨rfl, hb9⟩; have HV1 := Lib.hid (HBX.out.up hb9); obtain ⟨x0, x1, x2, x3, x4⟩ := box5 HV1.out.i0; clear hb9)
    | (go_at_call 53; (with_reducible refine (CX.out _).mono ?_); rintro e w2 ⟨rfl, hb9⟩; clear x0 x1 x2 x3 x4; have HV2 := Lib.hid (HV1.out.up hb9); obtain ⟨x0, x1, x2, x3, x4⟩ := box5 HV2.out.i0; clear hb9)
    | (go_at_call 55; (with_reducible refine (CN.out _).mono ?_); rintro e w3 ⟨p, F, rfl, h1, h2, hb9⟩; have H1 := Lib.hid h1; have H2 : Hid (∀ k, F k → w.heap.size ≤ k) := Lib.hid (fun k hk => Nat.le_trans HV2.out.below.size (h2 k hk)); have HB2 := Lib.hid (below_call HV2.out.below hb9 (Nat.le_refl _)); clear h1 h2 hb9))
  go_ret2
  exact ⟨p, F, rfl, H1.out, H2.out, HB2.out⟩
set_option maxRecDepth 100000 in
set_option maxHeartbeats 4000000 in
theorem vnew_N (c : Cfg) (l : Int) (w : World) (h : c.Ok) (l0 : -9223372036854775808 ≤ l) (l1 : l ≤ 9223372036854775807) (hk : keys c l = 0) :
    Calls Tryz.prog 30 #[.agg #[.int .i64 c.bt, .int .i64 c.rw, .int .i64 c.wd, .int .i64 c.md, .int .u64 c.sd], .int .i64 l] w fun e w' => e = .returned (.tuple #[.nilIface, .int .i64 1]) ∧ Below w.heap.size w w' := by
  have CK := Lib.hid (fun w => keys_any c l w h l0 l1)
  rw [hk] at CK
  have HBX : Hid (Have w (w.alloc (.cells #[.int .i64 c.bt, .int .i64 c.rw, .int .i64 c.wd, .int .i64 c.md, .int .u64 c.sd] 24)) [boxT w.heap.size 24 #[.int .i64 c.bt, .int .i64 c.rw, .int .i64 c.wd, .int .i64 c.md, .int .u64 c.sd]]) := Lib.hid (box_new w _ _)
  clear  h hk
  go_enter Tryz.func30, Tryz.ntmps30
  go_wp2_with (go_at_call 32; (with_reducible refine (CK.out _).mono ?_); rintro e w1 ⟨rfl, hb9⟩; have HV1 := Lib.hid (HBX.out.up hb9); obtain ⟨x0, x1, x2, x3, x4⟩ := box5 HV1.out.i0; clear hb9)
  go_ret2
  have hb9 := HV1.out.below
  exact ⟨rfl, (by repeat' (first | (with_reducible exact Below.refl _ _) | (with_reducible assumption) | (with_reducible refine below_over ?_ _ _) | (with_reducible refine Lw.below_alloc ?_ _) | (with_reducible refine Below.drew ?_) | (with_reducible refine below_drewN ?_ _) | (with_reducible refine Below.setCell ?_ ?_ _) | go_size))⟩
end Go.Proofs.YtiblpdjehknbcaaGreat.Lev
/- The document's Columns: its row lies in a block of its own. Printed by wip/gen/skref.py. -/
namespace Go.Proofs.YtiblpdjehknbcaaGreat.Shp
open Go Go.RowKit Lw
set_option linter.unusedVariables false
set_option linter.unusedSimpArgs false
set_option maxRecDepth 100000 in
set_option maxHeartbeats 2000000 in
theorem rcols_own (c : Cfg) (l k : Int) (w : World) (h : c.Ok) (l0 : -9223372036854775808 ≤ l) (l1 : l ≤ 9223372036854775807) (k0 : 0 ≤ k) (k1 : k ≤ 18446744073709551615) :
    Calls Tryz.prog 72 #[.agg #[.int .i64 c.bt, .int .i64 c.rw, .int .i64 c.wd, .int .i64 c.md, .int .u64 c.sd], .int .i64 l, .int .u64 k] w fun e w' => ∃ (A : Addr) (cap : Nat), e = .returned (.slice (some A) (cols c l k).length cap) ∧ Rd .i64 w' (some A) (cols c l k) ∧ (cols c l k).length ≤ cap ∧ cap ≤ maxLen ∧ w.heap.size ≤ A.block ∧ Below w.heap.size w w' := by
  obtain ⟨i0, hi, hi0, hi1, hi2⟩ := info_parts int_info
  have HO := Lib.hid h
  obtain ⟨b0, b1, r0, r1, w0, w1, m0, m1, s0, s1⟩ := h
  have hkl := keys_bd c l
  have hpos := keys_pos (c := c) (l := l)
  have HY := Lib.hid (@cols_yes c l k)
  have HNo := Lib.hid (@cols_no c l k)
  obtain ⟨K, hK⟩ : ∃ K, keys c l = K := ⟨_, rfl⟩
  rw [hK] at hkl hpos HY HNo
  by_cases h1 : k < K
  · obtain ⟨hr, hl0, hl1⟩ := hpos.1 (by omega)
    have hb59 := hr.2.1
    have hr1 := hr.2.2.1
    have hr2 := hr.2.2.2.1
    have HC := Lib.hid (HY.out h1)
    obtain ⟨R, hR⟩ : ∃ R : Nat, c.rw = R := ⟨c.rw.toNat, by omega⟩
    have HR : Hid (c.rw.toNat = R) := Lib.hid (by omega)
    have hR8 : R ≤ 8 := by omega
    have HRW := Lib.hid hR
    clear hpos hr hR
    go_enter Tryz.func72, Tryz.ntmps72
    go_wp2_with (go_at_call 24; (with_reducible refine (rkeys_any c l _ HO.out l0 l1).mono ?_); rintro e w' ⟨he, hb⟩; rw [hK] at he; subst he; obtain ⟨bs, d, rfl⟩ := below_grow hb; clear hb)
    obtain ⟨wK, hw1⟩ : ∃ wK : World, wK = grow ((w.alloc (.cells #[.int .i64 c.bt, .int .i64 c.rw, .int .i64 c.wd, .int .i64 c.md, .int .u64 c.sd] 24)).alloc (.cells #[] 3)) bs d := ⟨_, rfl⟩
    have hwb : Below w.heap.size w wK := by rw [hw1]; repeat' (first | (with_reducible exact Below.refl _ _) | (with_reducible assumption) | (with_reducible refine below_over ?_ _ _) | (with_reducible refine Lw.below_alloc ?_ _) | (with_reducible refine Below.drew ?_) | (with_reducible refine below_drewN ?_ _) | (with_reducible refine Below.setCell ?_ ?_ _) | go_size)
    have hwc : wK.heap[w.heap.size]? = some (.cells #[.int .i64 c.bt, .int .i64 c.rw, .int .i64 c.wd, .int .i64 c.md, .int .u64 c.sd] 24 (0, 0)) := by
      rw [hw1, (grow_below _ bs d).block _ (by simp), (Lw.below_alloc (Below.refl (w.alloc (.cells #[.int .i64 c.bt, .int .i64 c.rw, .int .i64 c.wd, .int .i64 c.md, .int .u64 c.sd] 24)).heap.size _) _).block _ (by simp)]
      exact heap_alloc_new w _
    have hwo : wK.ownsRow (w.heap.size + 1) 3 1 (.slice (some ⟨w.heap.size + 1, 0, none⟩) 0 0) 0 (([] : List Int).map (Value.int .i64)) := by
      rw [hw1]
      have h := own_empty (w.alloc (.cells #[.int .i64 c.bt, .int .i64 c.rw, .int .i64 c.wd, .int .i64 c.md, .int .u64 c.sd] 24)) 3 1 (w.heap.size + 1) (by simp)
      have e : (w.alloc (.cells #[.int .i64 c.bt, .int .i64 c.rw, .int .i64 c.wd, .int .i64 c.md, .int .u64 c.sd] 24)).heap.size = w.heap.size + 1 := by simp
      rw [e] at h
      exact (Kept.of_below (F := fun _ => False) (grow_below _ bs d)).own h (fun _ _ h => h)
    rw [← hw1]
    clear hw1
    have HW := Lib.hid hwb
    have HX := Lib.hid hwc
    have HY2 := Lib.hid hwo
    clear hwb hwc hwo
    go_loopw [7, 8] (fun v i wr => ∃ (r g cp : Nat), r ≤ R ∧ i = .int .i64 r ∧ v = .slice (some ⟨g, 0, none⟩) r cp ∧ wr.ownsRow (w.heap.size + 1) 3 1 v r (((List.range r).map (col c l k)).map (Value.int .i64)) ∧ wr.heap[w.heap.size]? = some (.cells #[.int .i64 c.bt, .int .i64 c.rw, .int .i64 c.wd, .int .i64 c.md, .int .u64 c.sd] 24 (0, 0)) ∧ Below w.heap.size w wr) (fun _ i _ => R - (intOf i).toNat)
    case atStart => exact ⟨0, _, 0, Nat.zero_le _, rfl, rfl, HY2.out, HX.out, HW.out⟩
    case round =>
      obtain ⟨r, g, cp, hrR, rfl, rfl, hown, hbox, hbel⟩ := hrel
      have hwl : w.heap.size < wr.heap.size := by
        rcases Nat.lt_or_ge w.heap.size wr.heap.size with h | h
        · exact h
        · rw [Array.getElem?_eq_none h] at hbox; cases hbox
      have x1 : wr.cell? ⟨w.heap.size, 1, none⟩ = some (.int .i64 c.rw) := by simp [World.cell?, hbox]
      have x2 : wr.cell? ⟨w.heap.size, 2, none⟩ = some (.int .i64 c.wd) := by simp [World.cell?, hbox]
      have x4 : wr.cell? ⟨w.heap.size, 4, none⟩ = some (.int .u64 c.sd) := by simp [World.cell?, hbox]
      have HOW := Lib.hid hown
      have HBX := Lib.hid hbox
      have HBL := Lib.hid hbel
      clear hown hbox hbel
      rw [HRW.out] at x1
      by_cases hlt : r < R
      · obtain ⟨pa, hpa⟩ : ∃ pa, Sed.pairA c.sd l r = pa := ⟨_, rfl⟩
        obtain ⟨pb, hpb⟩ : ∃ pb, Sed.pairB c.sd l r = pb := ⟨_, rfl⟩
        have ba := Sed.pairA_bd c.sd l r
        have bb := Sed.pairB_bd c.sd l r
        have hok : Sed.okRow l r := ⟨hl0, by have := b1; omega, by omega, by omega⟩
        have ba := ba hok
        have bb := bb hok
        rw [hpa] at ba
        rw [hpb] at bb
        obtain ⟨X, hX⟩ : ∃ X, Hsh.buck pa pb k c.wd = X := ⟨_, rfl⟩
        have hcol : col c l k r = X := by unfold col; rw [hpa, hpb, hX]
        have HN := Lib.hid (range_next (col c l k) r)
        rw [hcol] at HN
        clear hcol hok
        go_wp2_with (first
          | (go_at_call 80; (with_reducible refine (Sed.rpair_any c.sd l r _ l0 l1 (by omega) (by omega)).mono ?_); rintro e w' ⟨he, rfl⟩; rw [hpa, hpb] at he; subst he)
          | (go_at_call 81; (with_reducible refine (Hsh.rbucket_any pa pb k c.wd _ (by omega) (by omega) (by omega) (by omega) k0 k1 w0 w1).mono ?_); rintro e w' ⟨he, rfl⟩; rw [hX] at he; subst he)
          | (at_builtin; (refine app_one .i64 rfl _ _ 142 rfl (w.heap.size + 1) 3 i0 8 ints_u hi hi0 hi1 hi2 (.slice (some ⟨g, 0, none⟩) r cp) r ((List.range r).map (col c l k)) rfl (HOW.out.alloc _) X wr.heap.size rfl (cell_one_new _ _ _) (by unfold maxLen; omega) (by omega) (by simp; omega) ?_); intro v1 w2 own1 grow1 oth1; obtain ⟨gg, cc, rfl, hgg, hgl⟩ := own1.form (by omega)))
        go_roundw
        case rel =>
          have hge := own_ge HOW.out
          refine ⟨r + 1, gg, cc, by omega, by go_num, rfl, by rw [HN.out]; exact own1, ?_, ?_⟩
          · refine ((Kept.refl (fun q => q = g) _).grown grow1 (fun q hq => .inl (by simpa [Value.ownBlock] using hq.symm))).heap (o := _) ?_ (by have := hge g rfl; omega)
            rw [(Lw.below_alloc (Below.refl wr.heap.size wr) _).block _ hwl]
            exact HBX.out
          · exact app_below3 (Lw.below_alloc HBL.out _) grow1 (fun q hq => by have := hge q hq; omega)
        case measure => simp [intOf]; omega
      · have e : r = R := by omega
        subst e
        obtain ⟨A, cp2, hv, hrd, h2, h3, h4⟩ := own_rd HOW.out
        injection hv with hv1 hv2 hv3
        subst hv1 hv3
        have hlen : ((List.range r).map (col c l k)).length = r := by simp
        have HCC : Hid (cols c l k = (List.range r).map (col c l k)) := Lib.hid (by rw [HC.out, HR.out])
        have HRD := Lib.hid hrd
        clear hrd h4
        go_wp2
        go_ret
        exact ⟨⟨g, 0, none⟩, cp, by rw [HCC.out, hlen]; rfl, by rw [HCC.out]; exact HRD.out, by rw [HCC.out, hlen]; exact h2, h3, by have := own_ge HOW.out g rfl; show w.heap.size ≤ g; omega, HBL.out⟩
  · have HC := Lib.hid (HNo.out h1)
    clear hpos
    go_enter Tryz.func72, Tryz.ntmps72
    go_wp2_with (go_at_call 24; (with_reducible refine (rkeys_any c l _ HO.out l0 l1).mono ?_); rintro e w' ⟨he, hb⟩; rw [hK] at he; subst he; obtain ⟨bs, d, rfl⟩ := below_grow hb; clear hb)
    all_goals go_ret
    all_goals refine ⟨⟨w.heap.size + 1, 0, none⟩, 0, by rw [HC.out]; rfl, by rw [HC.out]; exact rd_nil _ _ _, by rw [HC.out]; exact Nat.le_refl _, by decide, Nat.le_succ _, ?_⟩
    all_goals (repeat' (first | (with_reducible exact Below.refl _ _) | (with_reducible assumption) | (with_reducible refine below_over ?_ _ _) | (with_reducible refine Lw.below_alloc ?_ _) | (with_reducible refine Below.drew ?_) | (with_reducible refine below_drewN ?_ _) | (with_reducible refine Below.setCell ?_ ?_ _) | go_size))
end Go.Proofs.YtiblpdjehknbcaaGreat.Shp
/- Many things as one, and things that are held while a call turns them. For stages from 15 on (a row of levels). -/
namespace Go.Proofs.YtiblpdjehknbcaaGreat.Lw
open Go Go.RowKit
set_option linter.unusedVariables false
def Asun : List Thing → Prop
  | [] => True
  | t :: ts => (∀ u ∈ ts, ∀ k, t.F k → ¬ u.F k) ∧ Asun ts
theorem Asun.append : ∀ {ts us : List Thing}, Asun (ts ++ us) ↔ Asun ts ∧ Asun us ∧ ∀ t ∈ ts, ∀ u ∈ us, ∀ k, t.F k → ¬ u.F k
  | [], us => by simp [Asun]
  | t :: ts, us => by
    have ih := Asun.append (ts := ts) (us := us)
    constructor
    · intro h
      have h2 := ih.1 h.2
      refine ⟨⟨fun u hu => h.1 u (by simp [hu]), h2.1⟩, h2.2.1, fun s hs u hu => ?_⟩
      rcases List.mem_cons.1 hs with rfl | hs
      · exact h.1 u (by simp [hu])
      · exact h2.2.2 s hs u hu
    · intro h
      refine ⟨fun u hu => ?_, ih.2 ⟨h.1.2, h.2.1, fun s hs => h.2.2 s (by simp [hs])⟩⟩
      rcases List.mem_append.1 hu with h1 | h1
      · exact h.1.1 u h1
      · exact h.2.2 t (by simp) u h1
/-- Many things as one. -/
def manyT (ts : List Thing) : Thing where
  I := fun w => (∀ t ∈ ts, t.I w) ∧ Asun ts
  F := fun k => ∃ t ∈ ts, t.F k
  keep := fun w w' H h hk hf => ⟨fun t ht => t.keep w w' H (h.1 t ht) hk (fun k h1 => hf k ⟨t, ht, h1⟩), h.2⟩
  lt := fun w h k hk => by
    obtain ⟨t, ht, h1⟩ := hk
    exact t.lt w (h.1 t ht) k h1
/-- The things ts, apart, each in blocks of F0 or in such as were made behind w0; no other block of w0 was changed. -/
def Hold (F0 : Nat → Prop) (w0 w : World) (ts : List Thing) : Prop :=
  Kept F0 w0 w ∧ (∀ t ∈ ts, t.I w ∧ ∀ k, t.F k → F0 k ∨ w0.heap.size ≤ k) ∧ Asun ts
theorem Hold.start {w : World} {ts : List Thing} (h : (manyT ts).I w) : Hold (manyT ts).F w w ts :=
  ⟨Kept.refl _ _, fun t ht => ⟨h.1 t ht, fun k hk => .inl ⟨t, ht, hk⟩⟩, h.2⟩
theorem Hold.many {F0 : Nat → Prop} {w0 w : World} {ts : List Thing} (h : Hold F0 w0 w ts) : (manyT ts).I w ∧ Kept F0 w0 w ∧ (∀ k, (manyT ts).F k → F0 k ∨ w0.heap.size ≤ k) :=
  ⟨⟨fun t ht => (h.2.1 t ht).1, h.2.2⟩, h.1, fun k ⟨t, ht, hk⟩ => (h.2.1 t ht).2 k hk⟩
theorem Hold.up {F0 : Nat → Prop} {w0 w w' : World} {ts : List Thing} (h : Hold F0 w0 w ts) (hb : Below w.heap.size w w') : Hold F0 w0 w' ts :=
  ⟨Kept.then h.1 hb, fun t ht => ⟨t.keep w w' (fun _ => False) (h.2.1 t ht).1 (Kept.of_below hb) (fun _ _ h => h), (h.2.1 t ht).2⟩, h.2.2⟩
theorem Hold.push {F0 : Nat → Prop} {w0 w w' : World} {ts : List Thing} (h : Hold F0 w0 w ts) (t : Thing) (hb : Below w.heap.size w w') (ht : t.I w') (hn : ∀ k, t.F k → w.heap.size ≤ k) : Hold F0 w0 w' (t :: ts) := by
  have h2 := h.up hb
  refine ⟨h2.1, fun u hu => ?_, fun u hu k hk hu2 => ?_, h2.2.2⟩
  · rcases List.mem_cons.1 hu with rfl | hu
    · exact ⟨ht, fun k hk => .inr (Nat.le_trans h.1.size (hn k hk))⟩
    · exact h2.2.1 u hu
  · have h3 := u.lt w (h.2.1 u hu).1 k hu2
    have h4 := hn k hk
    omega
/-- One of them is turned by a call. -/
theorem Hold.turn {F0 : Nat → Prop} {w0 w w' : World} {fs : List Thing} {t : Thing} {ts : List Thing} (h : Hold F0 w0 w (fs ++ t :: ts)) (t' : Thing) (ht : t'.I w') (hk : Kept t.F w w') (hF : ∀ k, t'.F k → t.F k ∨ w.heap.size ≤ k) : Hold F0 w0 w' (fs ++ t' :: ts) := by
  have hap := Asun.append.1 h.2.2
  have htI := h.2.1 t (by simp)
  have hoth : ∀ u, u ∈ fs ∨ u ∈ ts → ∀ k, u.F k → ¬ t.F k := by
    intro u hu k h1 h2
    rcases hu with hu | hu
    · exact hap.2.2 u hu t (by simp) k h1 h2
    · exact hap.2.1.1 u hu k h2 h1
  have hin : ∀ u, u ∈ fs ∨ u ∈ ts → u ∈ fs ++ t :: ts := by
    intro u hu
    rcases hu with hu | hu
    · simp [hu]
    · simp [hu]
  have hnew : ∀ u, u ∈ fs ∨ u ∈ ts → ∀ k, t'.F k → ¬ u.F k := by
    intro u hu k h1 h2
    rcases hF k h1 with h3 | h3
    · exact hoth u hu k h2 h3
    · have := u.lt w (h.2.1 u (hin u hu)).1 k h2
      omega
  refine ⟨?_, fun u hu => ?_, ?_⟩
  · refine ⟨hk.os.trans h.1.os, hk.tape.trans h.1.tape, hk.output.trans h.1.output, Nat.le_trans h.1.size hk.size, fun k hk0 hF0 => ?_⟩
    refine (hk.block k (Nat.lt_of_lt_of_le hk0 h.1.size) fun hG => ?_).trans (h.1.block k hk0 hF0)
    rcases htI.2 k hG with h1 | h1
    · exact hF0 h1
    · omega
  · rcases List.mem_append.1 hu with h1 | h1
    · exact ⟨u.keep w w' t.F (h.2.1 u (hin u (.inl h1))).1 hk (hoth u (.inl h1)), (h.2.1 u (hin u (.inl h1))).2⟩
    · rcases List.mem_cons.1 h1 with rfl | h1
      · refine ⟨ht, fun k hk2 => ?_⟩
        rcases hF k hk2 with h3 | h3
        · exact htI.2 k h3
        · exact .inr (Nat.le_trans h.1.size h3)
      · exact ⟨u.keep w w' t.F (h.2.1 u (hin u (.inr h1))).1 hk (hoth u (.inr h1)), (h.2.1 u (hin u (.inr h1))).2⟩
  · refine Asun.append.2 ⟨hap.1, ⟨fun u hu k h1 h2 => hnew u (.inr hu) k h1 h2, hap.2.1.2⟩, fun s hs u hu k h1 h2 => ?_⟩
    rcases List.mem_cons.1 hu with rfl | hu
    · exact hnew s (.inl hs) k h2 h1
    · exact hap.2.2 s hs u (by simp [hu]) k h1 h2
theorem Hold.i {F0 : Nat → Prop} {w0 w : World} {ts : List Thing} (h : Hold F0 w0 w ts) {t : Thing} (ht : t ∈ ts) : t.I w := (h.2.1 t ht).1
/-- Things side by side, taken together and apart again. -/
theorem Have.many {w0 w : World} : ∀ {ts us : List Thing}, Have w0 w (ts ++ us) → Have w0 w (manyT ts :: us) := by
  intro ts us h
  have hap : ∀ {ts : List Thing}, Have w0 w (ts ++ us) → Asun ts ∧ (∀ t ∈ ts, ∀ u ∈ us, ∀ k, t.F k → ¬ u.F k) ∧ Have w0 w us := by
    intro ts
    induction ts with
    | nil => intro h; exact ⟨trivial, fun t ht => by simp at ht, h⟩
    | cons t ts ih =>
      intro h
      obtain ⟨h1, h2, h3⟩ := ih h.2.2.2
      refine ⟨⟨fun u hu => h.2.2.1 u (by simp [hu]), h1⟩, fun s hs u hu => ?_, h3⟩
      rcases List.mem_cons.1 hs with rfl | hs
      · exact h.2.2.1 u (by simp [hu])
      · exact h2 s hs u hu
  obtain ⟨h1, h2, h3⟩ := hap h
  exact ⟨⟨fun t ht => (h.one t (by simp [ht])).1, h1⟩, fun k ⟨t, ht, hk⟩ => (h.one t (by simp [ht])).2 k hk, fun u hu k ⟨t, ht, hk⟩ => h2 t ht u hu k hk, h3⟩
theorem Have.each {w0 w : World} : ∀ {ts us : List Thing}, Have w0 w (manyT ts :: us) → Have w0 w (ts ++ us)
  | [], us, h => h.2.2.2
  | t :: ts, us, h => by
    refine ⟨h.1.1 t (by simp), fun k hk => h.2.1 k ⟨t, by simp, hk⟩, fun u hu k hk => ?_, Have.each (ts := ts) ⟨⟨fun s hs => h.1.1 s (by simp [hs]), h.1.2.2⟩, fun k ⟨s, hs, hk⟩ => h.2.1 k ⟨s, by simp [hs], hk⟩, fun u hu k ⟨s, hs, hk⟩ => h.2.2.1 u hu k ⟨s, by simp [hs], hk⟩, h.2.2.2⟩⟩
    rcases List.mem_append.1 hu with h1 | h1
    · exact h.1.2.1 u h1 k hk
    · exact h.2.2.1 u h1 k ⟨t, by simp, hk⟩
end Go.Proofs.YtiblpdjehknbcaaGreat.Lw
/- Spans cut into prefixes, in plain numbers: the greatest piece from the left, again and again. For stage 14. -/
namespace Go.Proofs.YtiblpdjehknbcaaGreat.Pcs
set_option linter.unusedVariables false
/-- The level of the greatest piece that begins at lo and ends before e. -/
def GL (B lo e L : Nat) : Prop := L ≤ B ∧ 2 ^ L ∣ lo ∧ lo + 2 ^ L ≤ e ∧ (L = B ∨ ¬ 2 ^ (L + 1) ∣ lo ∨ e < lo + 2 ^ (L + 1))
theorem pow_dvd {a b : Nat} (h : a ≤ b) : 2 ^ a ∣ 2 ^ b := Nat.pow_dvd_pow 2 h
theorem pow_le {a b : Nat} (h : a ≤ b) : 2 ^ a ≤ 2 ^ b := Nat.pow_le_pow_right (by omega) h
theorem pow_lt {a b : Nat} (h : 2 ^ a < 2 ^ b) : a < b := by
  rcases Nat.lt_or_ge a b with g | g
  · exact g
  · have := pow_le g
    omega
theorem pow_pos (a : Nat) : 1 ≤ 2 ^ a := Nat.one_le_two_pow
theorem pow_next (a : Nat) : 2 ^ (a + 1) = 2 ^ a + 2 ^ a := by rw [Nat.pow_succ]; omega
theorem GL.no_lt {B lo e L L' : Nat} (h : GL B lo e L) (g : GL B lo e L') : ¬ L < L' := by
  intro hl
  rcases h.2.2.2 with e1 | e1 | e1
  · have := g.1
    omega
  · exact e1 (Nat.dvd_trans (pow_dvd hl) g.2.1)
  · have := pow_le (show L + 1 ≤ L' from hl)
    have := g.2.2.1
    omega
theorem GL.uniq {B lo e L L' : Nat} (h : GL B lo e L) (g : GL B lo e L') : L = L' := by
  have h1 := h.no_lt g
  have h2 := g.no_lt h
  omega
/-- The pieces from lo on, up to e, each as level and index. -/
inductive Cov (B e : Nat) : Nat → List (Nat × Nat) → Prop
  | nil : Cov B e e []
  | cons {lo L : Nat} {l : List (Nat × Nat)} : GL B lo e L → Cov B e (lo + 2 ^ L) l → Cov B e lo ((L, lo / 2 ^ L) :: l)
theorem Cov.le {B e lo : Nat} {l : List (Nat × Nat)} (h : Cov B e lo l) : lo ≤ e := by
  cases h with
  | nil => exact Nat.le_refl _
  | @cons _ L _ g _ => have := g.2.2.1; have := pow_pos L; omega
theorem Cov.uniq {B e lo : Nat} {l m : List (Nat × Nat)} (h : Cov B e lo l) (g : Cov B e lo m) : l = m := by
  induction h generalizing m with
  | nil =>
    cases g with
    | nil => rfl
    | @cons _ L _ g1 _ => have := g1.2.2.1; have := pow_pos L; omega
  | @cons lo L l h1 h2 ih =>
    cases g with
    | nil => have := h1.2.2.1; have := pow_pos L; omega
    | @cons _ L' _ g1 g2 =>
      obtain rfl := h1.uniq g1
      rw [ih g2]
theorem Cov.fall {B e lo : Nat} {l : List (Nat × Nat)} (h : Cov B e lo l) : ∀ k, 2 ^ k ∣ lo → e < lo + 2 ^ k → k ≤ B + 1 → (∀ p ∈ l, p.1 < k) ∧ (l.map (·.1)).Pairwise (· > ·) := by
  induction h with
  | nil => intro k _ _ _; exact ⟨fun p hp => by simp at hp, List.Pairwise.nil⟩
  | @cons lo L l g _ ih =>
    intro k hk he hkB
    have hL : L < k := pow_lt (by have := g.2.2.1; omega)
    have hn : e < lo + 2 ^ L + 2 ^ L := by
      rcases g.2.2.2 with e1 | e1 | e1
      · obtain rfl : k = B + 1 := by omega
        rw [pow_next] at he
        subst e1
        omega
      · exact absurd (Nat.dvd_trans (pow_dvd hL) hk) e1
      · rw [pow_next] at e1
        omega
    have hd : 2 ^ L ∣ lo + 2 ^ L := Nat.dvd_add g.2.1 (Nat.dvd_refl _)
    obtain ⟨h1, h2⟩ := ih L hd hn (by have := g.1; omega)
    refine ⟨fun p hp => ?_, ?_⟩
    · rcases List.mem_cons.1 hp with rfl | hp
      · exact hL
      · have := h1 p hp
        omega
    · rw [List.map_cons, List.pairwise_cons]
      refine ⟨fun x hx => ?_, h2⟩
      obtain ⟨p, hp, rfl⟩ := List.mem_map.1 hx
      exact h1 p hp
theorem down {B lo e L L' : Nat} (g : GL B lo e L) (g' : GL B (lo + 2 ^ L) e L') (hle : L' ≤ L) (he : e ≤ 2 ^ B) : 2 ^ (L' + 1) ∣ lo + 2 ^ L ∧ e < lo + 2 ^ L + 2 ^ (L' + 1) := by
  have hp := pow_pos L'
  have hLB : ¬ L = B := by
    rintro rfl
    have h1 := g.2.2.1
    have h2 := g'.2.2.1
    omega
  have hd : 2 ^ (L' + 1) ∣ lo + 2 ^ L := by
    by_cases hl : L' < L
    · exact Nat.dvd_add (Nat.dvd_trans (pow_dvd hl) g.2.1) (pow_dvd hl)
    · obtain rfl : L' = L := by omega
      by_cases hx : 2 ^ (L' + 1) ∣ lo
      · exfalso
        have h2 := g'.2.2.1
        rcases g.2.2.2 with e1 | e1 | e1
        · exact hLB e1
        · exact e1 hx
        · rw [pow_next] at e1
          omega
      · obtain ⟨q, hq⟩ := g.2.1
        rcases Nat.mod_two_eq_zero_or_one q with h | h
        · exfalso
          apply hx
          refine ⟨q / 2, ?_⟩
          rw [Nat.pow_succ, Nat.mul_assoc, show 2 * (q / 2) = q by omega]
          exact hq
        · refine ⟨q / 2 + 1, ?_⟩
          rw [Nat.pow_succ, Nat.mul_assoc, show 2 * (q / 2 + 1) = q + 1 by omega, Nat.mul_add, Nat.mul_one, hq]
  refine ⟨hd, ?_⟩
  rcases g'.2.2.2 with e1 | e1 | e1
  · have := g.1
    omega
  · exact absurd hd e1
  · exact e1
/-- The levels rise, and then fall. -/
theorem Cov.rise {B e lo : Nat} {l : List (Nat × Nat)} (h : Cov B e lo l) (he : e ≤ 2 ^ B) : ∃ A C, l = A ++ C ∧ (A.map (·.1)).Pairwise (· < ·) ∧ (C.map (·.1)).Pairwise (· > ·) := by
  induction h with
  | nil => exact ⟨[], [], rfl, List.Pairwise.nil, List.Pairwise.nil⟩
  | @cons lo L l g hc ih =>
    cases hc with
    | nil => exact ⟨[(L, lo / 2 ^ L)], [], rfl, by simp, List.Pairwise.nil⟩
    | @cons _ L' l' g' hc' =>
      by_cases hl : L < L'
      · obtain ⟨A, C, e1, hA, hC⟩ := ih
        cases A with
        | nil =>
          rw [List.nil_append] at e1
          exact ⟨[(L, lo / 2 ^ L)], C, by rw [e1]; rfl, by simp, hC⟩
        | cons a A =>
          rw [List.cons_append] at e1
          injection e1 with e2 e3
          refine ⟨(L, lo / 2 ^ L) :: a :: A, C, by rw [← e2, e3]; rfl, ?_, hC⟩
          rw [List.map_cons, List.pairwise_cons]
          refine ⟨fun x hx => ?_, hA⟩
          rw [List.map_cons] at hx hA
          have h1 := (List.pairwise_cons.1 hA).1
          rcases List.mem_cons.1 hx with rfl | hx
          · rw [← e2]; exact hl
          · have := h1 x hx
            rw [← e2] at this
            show L < x
            have h4 : L' < x := this
            omega
      · obtain ⟨d1, d2⟩ := down g g' (by omega) he
        have hf := (Cov.cons g' hc').fall (L' + 1) d1 d2 (by have := g'.1; omega)
        exact ⟨[(L, lo / 2 ^ L)], _, rfl, by simp, hf.2⟩
/-- No two that follow each other are the halves of one. -/
theorem Cov.halves {B e lo : Nat} {l : List (Nat × Nat)} (h : Cov B e lo l) (he : e ≤ 2 ^ B) : ∀ (i : Nat) (p q : Nat × Nat), l[i]? = some p → l[i + 1]? = some q → p.1 = q.1 → q.2 % 2 = 0 := by
  induction h with
  | nil => intro i p q h1; simp at h1
  | @cons lo L l g hc ih =>
    intro i p q h1 h2 h3
    cases i with
    | succ i => exact ih i p q h1 h2 h3
    | zero =>
      simp at h1
      subst h1
      cases hc with
      | nil => simp at h2
      | @cons _ L' l' g' hc' =>
        simp at h2
        subst h2
        obtain rfl : L = L' := h3
        obtain ⟨q, hq⟩ := (down g g' (Nat.le_refl _) he).1
        show (lo + 2 ^ L) / 2 ^ L % 2 = 0
        rw [hq, Nat.pow_succ, Nat.mul_assoc, Nat.mul_div_cancel_left _ (pow_pos L)]
        omega
/-- Each piece is one, from where the one before it ends. -/
theorem Cov.at {B e lo : Nat} {l : List (Nat × Nat)} (h : Cov B e lo l) : ∀ (i : Nat) (p : Nat × Nat), l[i]? = some p → p.1 ≤ B ∧ lo ≤ p.2 * 2 ^ p.1 ∧ p.2 * 2 ^ p.1 + 2 ^ p.1 ≤ e := by
  induction h with
  | nil => intro i p h1; simp at h1
  | @cons lo L l g hc ih =>
    intro i p h1
    cases i with
    | zero =>
      simp at h1
      subst h1
      have h2 := Nat.div_mul_cancel g.2.1
      refine ⟨g.1, ?_, ?_⟩
      · show lo ≤ lo / 2 ^ L * 2 ^ L
        omega
      · show lo / 2 ^ L * 2 ^ L + 2 ^ L ≤ e
        rw [h2]
        exact g.2.2.1
    | succ i =>
      obtain ⟨h2, h3, h4⟩ := ih i p h1
      exact ⟨h2, Nat.le_trans (Nat.le_add_right lo (2 ^ L)) h3, h4⟩
theorem Cov.next {B e lo : Nat} {p : Nat × Nat} {l : List (Nat × Nat)} (h : Cov B e lo (p :: l)) : p.2 * 2 ^ p.1 = lo ∧ p.1 ≤ B ∧ lo + 2 ^ p.1 ≤ e ∧ Cov B e (lo + 2 ^ p.1) l := by
  cases h with
  | @cons _ L _ g hc => exact ⟨Nat.div_mul_cancel g.2.1, g.1, g.2.2.1, hc⟩
/-- A piece of all keys stands alone. -/
theorem Cov.whole {B e lo : Nat} {l : List (Nat × Nat)} (h : Cov B e lo l) (he : e ≤ 2 ^ B) : (∀ p ∈ l, p.1 < B) ∨ l = [(B, 0)] := by
  induction h with
  | nil => exact .inl (fun p hp => by simp at hp)
  | @cons lo L l g hc ih =>
    by_cases hL : L = B
    · subst hL
      have h1 := g.2.2.1
      obtain rfl : lo = 0 := by omega
      have h2 := hc.le
      cases hc with
      | nil => exact .inr (by simp)
      | @cons _ L' _ g' _ => have := g'.2.2.1; have := pow_pos L'; omega
    · rcases ih with h1 | h1
      · refine .inl (fun p hp => ?_)
        rcases List.mem_cons.1 hp with rfl | hp
        · have := g.1
          show L < B
          omega
        · exact h1 p hp
      · subst h1
        exfalso
        have h2 := hc.next
        have h3 : 0 * 2 ^ B = lo + 2 ^ L := h2.1
        have := pow_pos L
        rw [Nat.zero_mul] at h3
        omega
theorem len_up {m B : Nat} : ∀ {l : List Nat}, l.Pairwise (· < ·) → (∀ x ∈ l, m ≤ x ∧ x < B) → l.length ≤ B - m
  | [], _, _ => by simp
  | x :: l, h, hb => by
    have h0 := hb x (by simp)
    have h1 := List.pairwise_cons.1 h
    have ih := len_up (m := x + 1) (B := B) h1.2 (fun y hy => ⟨h1.1 y hy, (hb y (by simp [hy])).2⟩)
    rw [List.length_cons]
    omega
theorem len_down {B : Nat} : ∀ {l : List Nat}, l.Pairwise (· > ·) → (∀ x ∈ l, x < B) → l.length ≤ B
  | [], _, _ => by simp
  | x :: l, h, hb => by
    have h0 := hb x (by simp)
    have h1 := List.pairwise_cons.1 h
    have ih := len_down (B := x) h1.2 (fun y hy => h1.1 y hy)
    rw [List.length_cons]
    omega
theorem Cov.len {B e lo : Nat} {l : List (Nat × Nat)} (h : Cov B e lo l) (he : e ≤ 2 ^ B) (hB : 1 ≤ B) : l.length ≤ 2 * B := by
  rcases h.whole he with h1 | h1
  · obtain ⟨A, C, rfl, hA, hC⟩ := h.rise he
    have a1 := len_up (m := 0) (B := B) hA (fun x hx => by
      obtain ⟨p, hp, rfl⟩ := List.mem_map.1 hx
      exact ⟨by omega, h1 p (by simp [hp])⟩)
    have a2 := len_down (B := B) hC (fun x hx => by
      obtain ⟨p, hp, rfl⟩ := List.mem_map.1 hx
      exact h1 p (by simp [hp]))
    rw [List.length_map] at a1 a2
    rw [List.length_append]
    omega
  · rw [h1]
    simp
    omega
theorem count_up : ∀ {l : List Nat}, l.Pairwise (· < ·) → ∀ x, l.count x ≤ 1
  | [], _, x => by simp
  | y :: l, h, x => by
    have h1 := List.pairwise_cons.1 h
    have ih := count_up h1.2 x
    rw [List.count_cons]
    by_cases hy : y = x
    · subst hy
      have : l.count y = 0 := List.count_eq_zero.2 (fun hm => by have := h1.1 y hm; omega)
      rw [this]
      simp
    · simp [hy]
      exact ih
theorem count_down : ∀ {l : List Nat}, l.Pairwise (· > ·) → ∀ x, l.count x ≤ 1
  | [], _, x => by simp
  | y :: l, h, x => by
    have h1 := List.pairwise_cons.1 h
    have ih := count_down h1.2 x
    rw [List.count_cons]
    by_cases hy : y = x
    · subst hy
      have : l.count y = 0 := List.count_eq_zero.2 (fun hm => by have := h1.1 y hm; omega)
      rw [this]
      simp
    · simp [hy]
      exact ih
theorem Cov.two {B e lo : Nat} {l : List (Nat × Nat)} (h : Cov B e lo l) (he : e ≤ 2 ^ B) (i x : Nat) : ((l.take i).map (·.1)).count x ≤ 2 := by
  obtain ⟨A, C, e1, hA, hC⟩ := h.rise he
  have h1 := count_up hA x
  have h2 := count_down hC x
  have h3 : ((l.take i).map (·.1)).count x ≤ (l.map (·.1)).count x := ((List.take_sublist i l).map _).count_le x
  rw [e1, List.map_append, List.count_append] at h3
  rw [e1]
  omega
/-- From 0 on the levels fall from the first on. -/
theorem Cov.zero {B e : Nat} {l : List (Nat × Nat)} (h : Cov B e 0 l) (he : e ≤ 2 ^ B) : (l.map (·.1)).Pairwise (· > ·) :=
  (h.fall (B + 1) (Nat.dvd_zero _) (by have := pow_next B; have := pow_pos B; omega) (Nat.le_refl _)).2
theorem Cov.once {B e : Nat} {l : List (Nat × Nat)} (h : Cov B e 0 l) (he : e ≤ 2 ^ B) (i x : Nat) : ((l.take i).map (·.1)).count x ≤ 1 := by
  have h1 := count_down (h.zero he) x
  have h3 : ((l.take i).map (·.1)).count x ≤ (l.map (·.1)).count x := ((List.take_sublist i l).map _).count_le x
  omega
/-- A piece's own span. -/
theorem Cov.own {B L i : Nat} (hL : L ≤ B) (hi : (i + 1) * 2 ^ L ≤ 2 ^ B) : Cov B ((i + 1) * 2 ^ L) (i * 2 ^ L) [(L, i)] := by
  have h1 : (i + 1) * 2 ^ L = i * 2 ^ L + 2 ^ L := by rw [Nat.add_mul, Nat.one_mul]
  have hg : GL B (i * 2 ^ L) ((i + 1) * 2 ^ L) L := ⟨hL, Nat.dvd_mul_left _ _, by omega, .inr (.inr (by rw [pow_next]; have := pow_pos L; omega))⟩
  have hc := Cov.cons hg (by rw [← h1]; exact Cov.nil)
  rwa [Nat.mul_div_cancel _ (pow_pos L)] at hc
/-- From below: a first piece, and a last one. -/
theorem Cov.left {B k a b : Nat} {l : List (Nat × Nat)} (ha : a % 2 = 1) (hab : a < b) (hb : b * 2 ^ k ≤ 2 ^ B) (h : Cov B (b * 2 ^ k) ((a + 1) * 2 ^ k) l) : Cov B (b * 2 ^ k) (a * 2 ^ k) ((k, a) :: l) := by
  have hp := pow_pos k
  have h1 : (a + 1) * 2 ^ k = a * 2 ^ k + 2 ^ k := by rw [Nat.add_mul, Nat.one_mul]
  have h2 : (a + 1) * 2 ^ k ≤ b * 2 ^ k := Nat.mul_le_mul_right _ hab
  have hk : k ≤ B := by
    rcases Nat.lt_or_ge B k with g | g
    · have h3 : 2 ^ B < 2 ^ k := Nat.pow_lt_pow_right (by omega) g
      omega
    · exact g
  have hn : ¬ 2 ^ (k + 1) ∣ a * 2 ^ k := by
    rintro ⟨q, hq⟩
    rw [Nat.pow_succ, Nat.mul_assoc, Nat.mul_comm a] at hq
    have := Nat.eq_of_mul_eq_mul_left (by omega) hq
    omega
  have hg : GL B (a * 2 ^ k) (b * 2 ^ k) k := ⟨hk, Nat.dvd_mul_left _ _, by omega, .inr (.inl hn)⟩
  have hc := Cov.cons hg (by rw [← h1]; exact h)
  rwa [Nat.mul_div_cancel _ hp] at hc
theorem Cov.last {B k b lo : Nat} {l : List (Nat × Nat)} (hb : b % 2 = 0) (hB : (b + 1) * 2 ^ k ≤ 2 ^ B) (h : Cov B (b * 2 ^ k) lo l) : 2 ^ k ∣ lo → Cov B ((b + 1) * 2 ^ k) lo (l ++ [(k, b)]) := by
  have hp := pow_pos k
  have h1 : (b + 1) * 2 ^ k = b * 2 ^ k + 2 ^ k := by rw [Nat.add_mul, Nat.one_mul]
  have hk : k ≤ B := by
    rcases Nat.lt_or_ge B k with g | g
    · have h3 : 2 ^ B < 2 ^ k := Nat.pow_lt_pow_right (by omega) g
      omega
    · exact g
  obtain ⟨E, hE⟩ : ∃ E, b * 2 ^ k = E := ⟨_, rfl⟩
  have hEd : 2 ^ (k + 1) ∣ E := by
    refine ⟨b / 2, ?_⟩
    rw [← hE, Nat.pow_succ, Nat.mul_assoc, show 2 * (b / 2) = b by omega, Nat.mul_comm]
  rw [hE] at h h1
  rw [h1]
  induction h with
  | nil =>
    intro hd
    have hg : GL B E (E + 2 ^ k) k := ⟨hk, hd, Nat.le_refl _, .inr (.inr (by rw [pow_next]; omega))⟩
    have hc := Cov.cons hg Cov.nil
    rw [← hE, Nat.mul_div_cancel _ hp] at hc
    rw [← hE]
    exact hc
  | @cons lo L l g hc ih =>
    intro hd
    have hkL : k ≤ L := by
      rcases Nat.lt_or_ge L k with hlt | hge
      · exfalso
        rcases g.2.2.2 with e1 | e1 | e1
        · omega
        · exact e1 (Nat.dvd_trans (pow_dvd hlt) hd)
        · have h3 : 2 ^ (L + 1) ∣ E := Nat.dvd_trans (pow_dvd (by omega)) hEd
          have h4 : 2 ^ (L + 1) ∣ lo := Nat.dvd_trans (pow_dvd hlt) hd
          have h5 : 2 ^ (L + 1) ∣ E - lo := Nat.dvd_sub h3 h4
          have h6 := g.2.2.1
          have h7 := pow_pos L
          have h8 := Nat.le_of_dvd (by omega) h5
          omega
      · exact hge
    have hg : GL B lo (E + 2 ^ k) L := by
      refine ⟨g.1, g.2.1, by have := g.2.2.1; omega, ?_⟩
      rcases g.2.2.2 with e1 | e1 | e1
      · exact .inl e1
      · exact .inr (.inl e1)
      · by_cases hx : 2 ^ (L + 1) ∣ lo
        · refine .inr (.inr ?_)
          have h3 : 2 ^ (k + 1) ∣ lo + 2 ^ (L + 1) := Nat.dvd_add (Nat.dvd_trans (pow_dvd (by omega)) hx) (pow_dvd (by omega))
          have h4 : 2 ^ (k + 1) ∣ lo + 2 ^ (L + 1) - E := Nat.dvd_sub h3 hEd
          have h5 := Nat.le_of_dvd (by omega) h4
          rw [pow_next] at h5
          omega
        · exact .inr (.inl hx)
    exact Cov.cons hg (ih (Nat.dvd_add (Nat.dvd_trans (pow_dvd hkL) g.2.1) (pow_dvd hkL)))
end Go.Proofs.YtiblpdjehknbcaaGreat.Pcs
/- The document's two, Is, Span, Same of pieces. Printed by wip/gen/pcsref.py. -/
namespace Go.Proofs.YtiblpdjehknbcaaGreat.Pcs
open Go Go.RowKit Lw
set_option linter.unusedVariables false
set_option linter.unusedSimpArgs false
theorem ret_b {a b : Bool} (h : a = b) : Ending.returned (.bool a) = Ending.returned (.bool b) := by rw [h]
/-- Two to the power of k, as a number of the program. -/
def p2 (k : Nat) : Int := ((2 ^ k : Nat) : Int)
theorem p2_0 : p2 0 = 1 := rfl
theorem p2_next (k : Nat) : p2 k + p2 k = p2 (k + 1) := by unfold p2; rw [pow_next]; omega
theorem p2_pos (k : Nat) : 1 ≤ p2 k := by unfold p2; have := pow_pos k; omega
theorem p2_mono {a b : Nat} (h : a ≤ b) : p2 a ≤ p2 b := by unfold p2; have := pow_le h; omega
theorem p2_60 : p2 60 = 1152921504606846976 := rfl
theorem p2_bd {k : Nat} (h : k ≤ 60) : 1 ≤ p2 k ∧ p2 k ≤ 1152921504606846976 := ⟨p2_pos k, by rw [← p2_60]; exact p2_mono h⟩
theorem p2_mul {a b : Nat} (h : a ≤ b) : p2 (b - a) * p2 a = p2 b := by
  unfold p2
  rw [← Int.natCast_mul, ← Nat.pow_add, Nat.sub_add_cancel h]
theorem u64_in {x : Int} (h0 : 0 ≤ x) (h1 : x ≤ 18446744073709551615) : IntKind.u64.wrap x = x := by rw [IntKind.wrap_u64]; omega
/-- Is there such a piece? -/
def isP (b L i : Int) : Bool := decide (1 ≤ b ∧ b ≤ 59 ∧ 0 ≤ L ∧ L ≤ b ∧ i < p2 (b - L).toNat)
def spLo (b L i : Int) : Int := if isP b L i = true then i * p2 L.toNat else 0
def spHi (b L i : Int) : Int := if isP b L i = true then i * p2 L.toNat + p2 L.toNat - 1 else 0
theorem isP_bd {b L i : Int} (h : isP b L i = true) (hi0 : 0 ≤ i) : 1 ≤ b ∧ b ≤ 59 ∧ 0 ≤ L ∧ L ≤ b ∧ i < p2 (b - L).toNat ∧ 0 ≤ i * p2 L.toNat ∧ i * p2 L.toNat + p2 L.toNat ≤ p2 b.toNat := by
  obtain ⟨h1, h2, h3, h4, h5⟩ := of_decide_eq_true h
  have hp := p2_pos L.toNat
  refine ⟨h1, h2, h3, h4, h5, Int.mul_nonneg hi0 (by omega), ?_⟩
  have e : (b - L).toNat = b.toNat - L.toNat := by omega
  rw [e] at h5
  have e2 := p2_mul (show L.toNat ≤ b.toNat by omega)
  have h6 : (i + 1) * p2 L.toNat ≤ p2 (b.toNat - L.toNat) * p2 L.toNat := Int.mul_le_mul_of_nonneg_right (by omega) (by omega)
  rw [e2, Int.add_mul, Int.one_mul] at h6
  exact h6
theorem PcV.two {w : World} {A : Option Addr} {n c : Nat} {ps : List (Int × Int)} (h : PcV w A n c ps) {k : Nat} {p : Int × Int} (hp : ps[k]? = some p) : ∃ ad g q, A = some ad ∧ ad.add (k * 2) = ⟨g, q, none⟩ ∧ w.cell? ⟨g, q, none⟩ = some (.int .i64 p.1) ∧ w.cell? ⟨g, q + 1, none⟩ = some (.int .u64 p.2) := by
  obtain ⟨a, g, q, h1, h2, h3, h4, _⟩ := h.at hp
  exact ⟨a, g, q, h1, h2, h3, h4⟩
set_option maxRecDepth 100000 in
set_option maxHeartbeats 4000000 in
theorem psame_any (A B : Option Addr) (n m ca cb : Nat) (xs ys : List (Int × Int)) (w : World) (ha : PcV w A n ca xs) (hb : PcV w B m cb ys) :
    Calls Tryz.prog 17 #[.slice A n ca, .slice B m cb] w fun e w' => e = .returned (.bool (decide (xs = ys))) ∧ Below w.heap.size w w' := by
  have HA := Lib.hid ha
  have HB := Lib.hid hb
  have HLA := Lib.hid ha.len
  have HLB := Lib.hid hb.len
  have hn1 := ha.nc
  have hn2 := ha.cm
  have hm1 := hb.nc
  have hm2 := hb.cm
  unfold maxLen at hn2 hm2
  clear ha hb
  by_cases hnm : n = m
  · subst hnm
    go_enter Tryz.func17, Tryz.ntmps17
    go_wp2
    go_loopw [5] (fun i wr => ∃ k d : Nat, k ≤ n ∧ i = .int .i64 k ∧ xs.take k = ys.take k ∧ wr = w.drewN d) (fun i _ => n - (intOf i).toNat)
    case atStart => exact ⟨0, 0, Nat.zero_le _, rfl, rfl, rfl⟩
    case round =>
      obtain ⟨k, d, hk, rfl, heq, rfl⟩ := hrel
      have HE := Lib.hid heq
      clear heq
      by_cases hlt : k < n
      · obtain ⟨x, hx⟩ : ∃ x, xs[k]? = some x := ⟨_, List.getElem?_eq_getElem (by have := HLA.out; omega)⟩
        obtain ⟨y, hy⟩ : ∃ y, ys[k]? = some y := ⟨_, List.getElem?_eq_getElem (by have := HLB.out; omega)⟩
        obtain ⟨ad, g1, q1, rfl, had, x1, x2⟩ := HA.out.two hx
        obtain ⟨bd, g2, q2, rfl, hbd, y1, y2⟩ := HB.out.two hy
        obtain ⟨xa, xb⟩ := x
        obtain ⟨ya, yb⟩ := y
        simp only at x1 x2 y1 y2
        have HHX := Lib.hid hx
        have HHY := Lib.hid hy
        clear hx hy
        by_cases hxy : (xa, xb) = (ya, yb)
        · have HN : Hid (xs.take (k + 1) = ys.take (k + 1)) := Lib.hid (by
            rw [List.take_add_one, List.take_add_one, HE.out, HHX.out, HHY.out, hxy])
          injection hxy with e1 e2
          subst e1 e2
          go_wp2
          go_quiet (fail)
          go_wp2
          go_roundw
          case rel => exact ⟨k + 1, _, by omega, by go_num, HN.out, rfl⟩
          case measure => simp [intOf]; omega
        · have HD : Hid (decide (xs = ys) = false) := Lib.hid (decide_eq_false (fun e => hxy (by have h1 := HHX.out; rw [e, HHY.out] at h1; injection h1 with h1; exact h1.symm)))
          have hc : ¬ xa = ya ∨ (xa = ya ∧ ¬ xb = yb) := by
            by_cases h1 : xa = ya
            · exact .inr ⟨h1, fun h2 => hxy (by rw [h1, h2])⟩
            · exact .inl h1
          clear hxy
          rcases hc with h1 | ⟨rfl, h1⟩
          · have q1 : (xa == ya) = false := by simpa using h1
            have q2 : (xa != ya) = true := by simpa using h1
            clear h1
            go_wp2
            go_quiet (fail)
            go_wp2
            go_ret
            exact ⟨ret_b HD.out.symm, by first | exact below_drewN (Below.refl _ _) _ | exact below_drewN (below_drewN (Below.refl _ _) _) _⟩
          · have q1 : (xb == yb) = false := by simpa using h1
            have q2 : (xb != yb) = true := by simpa using h1
            clear h1
            go_wp2
            go_quiet (fail)
            go_wp2
            go_ret
            exact ⟨ret_b HD.out.symm, by first | exact below_drewN (Below.refl _ _) _ | exact below_drewN (below_drewN (Below.refl _ _) _) _⟩
      · have e : k = n := by omega
        subst e
        have HD : Hid (decide (xs = ys) = true) := Lib.hid (decide_eq_true (by
          have := HE.out
          rwa [List.take_of_length_le (by have := HLA.out; omega), List.take_of_length_le (by have := HLB.out; omega)] at this))
        go_wp2
        go_ret
        exact ⟨ret_b HD.out.symm, by first | exact below_drewN (Below.refl _ _) _ | exact below_drewN (below_drewN (Below.refl _ _) _) _⟩
  · have hne : ((n : Int) == (m : Int)) = false := by simp; omega
    have hne2 : ((n : Int) != (m : Int)) = true := by simp; omega
    have HD : Hid (decide (xs = ys) = false) := Lib.hid (decide_eq_false (fun e => hnm (by rw [← HLA.out, ← HLB.out, e])))
    clear hnm
    go_enter Tryz.func17, Tryz.ntmps17
    go_wp2
    go_ret
    exact ⟨ret_b HD.out.symm, Below.refl _ _⟩
end Go.Proofs.YtiblpdjehknbcaaGreat.Pcs
/- The document's Cover of pieces. Printed by wip/gen/pcsref.py. -/
namespace Go.Proofs.YtiblpdjehknbcaaGreat.Pcs
open Go Go.RowKit Lw
set_option linter.unusedVariables false
set_option linter.unusedSimpArgs false
/-- There is always a next piece. -/
theorem GL.ex_from {B lo e : Nat} : ∀ (d L : Nat), B - L = d → L ≤ B → 2 ^ L ∣ lo → lo + 2 ^ L ≤ e → ∃ L', GL B lo e L'
  | 0, L, h, h1, h2, h3 => ⟨L, h1, h2, h3, .inl (by omega)⟩
  | d + 1, L, h, h1, h2, h3 => by
    by_cases g1 : 2 ^ (L + 1) ∣ lo
    · by_cases g2 : lo + 2 ^ (L + 1) ≤ e
      · exact GL.ex_from d (L + 1) (by omega) (by omega) g1 g2
      · exact ⟨L, h1, h2, h3, .inr (.inr (by omega))⟩
    · exact ⟨L, h1, h2, h3, .inr (.inl g1)⟩
theorem GL.ex {B lo e : Nat} (h : lo < e) : ∃ L, GL B lo e L :=
  GL.ex_from B 0 (by omega) (by omega) (by simp) (by simp; omega)
theorem Cov.ex {B e : Nat} : ∀ (d lo : Nat), e - lo = d → lo ≤ e → ∃ l, Cov B e lo l := by
  intro d
  induction d using Nat.strongRecOn with
  | ind d ih =>
    intro lo h1 h2
    by_cases h : lo = e
    · subst h
      exact ⟨[], Cov.nil⟩
    · obtain ⟨L, hg⟩ := GL.ex (B := B) (show lo < e by omega)
      have hp := pow_pos L
      have hf := hg.2.2.1
      obtain ⟨l, hl⟩ := ih (e - (lo + 2 ^ L)) (by omega) (lo + 2 ^ L) rfl hf
      exact ⟨_, Cov.cons hg hl⟩
def ints (l : List (Nat × Nat)) : List (Int × Int) := l.map (fun p => ((p.1 : Int), (p.2 : Int)))
theorem ints_len (l : List (Nat × Nat)) : (ints l).length = l.length := List.length_map _
theorem ints_get {l : List (Nat × Nat)} {k : Nat} {p : Nat × Nat} (h : l[k]? = some p) : (ints l)[k]? = some ((p.1 : Int), (p.2 : Int)) := by
  unfold ints
  rw [List.getElem?_map, h]
  rfl
theorem ints_app (l m : List (Nat × Nat)) : ints (l ++ m) = ints l ++ ints m := List.map_append
theorem ints_inj : ∀ {l m : List (Nat × Nat)}, ints l = ints m → l = m
  | [], [], _ => rfl
  | [], _ :: _, h => by simp [ints] at h
  | _ :: _, [], h => by simp [ints] at h
  | (a, b) :: l, (c, d) :: m, h => by
    unfold ints at h
    rw [List.map_cons, List.map_cons] at h
    injection h with e1 e2
    injection e1 with e3 e4
    have e5 := ints_inj (l := l) (m := m) e2
    simp only at e3 e4
    obtain rfl : a = c := by omega
    obtain rfl : b = d := by omega
    rw [e5]
def okC (b lo hi : Int) : Bool := decide (1 ≤ b ∧ b ≤ 59 ∧ lo ≤ hi ∧ hi < p2 b.toNat)
theorem dvd_tmod {j k : Nat} : Int.tmod (j : Int) (p2 k) = ((j % 2 ^ k : Nat) : Int) := by
  unfold p2
  rw [Int.tmod_eq_emod_of_nonneg (by omega), Int.natCast_emod]
theorem div_tdiv {j k : Nat} : Int.tdiv (j : Int) (p2 k) = ((j / 2 ^ k : Nat) : Int) := by
  unfold p2
  rw [Int.tdiv_eq_ediv_of_nonneg (by omega), Int.natCast_ediv]
/-- What Cover answers: a row of pieces of its own. -/
def CovR (w w' : World) (e : Ending) (b lo hi : Int) : Prop :=
  ∃ (A : Option Addr) (n cap : Nat) (l : List (Nat × Nat)), e = .returned (.tuple #[.slice A n cap, .bool (okC b lo hi)]) ∧ (pcT A n cap (ints l)).I w' ∧ (∀ k, (pcT A n cap (ints l)).F k → w.heap.size ≤ k) ∧ Below w.heap.size w w' ∧ (okC b lo hi = true → Cov b.toNat (hi.toNat + 1) lo.toNat l) ∧ (okC b lo hi = false → l = [])
theorem pc_alloc {X : World} {n : Nat} {vs : Array Value} {t : TypeId} (h : X.heap.size = n) : (X.alloc (.cells vs t)).heap[n]? = some (.cells vs t (0, 0)) := by
  subst h
  exact heap_alloc_new X _
theorem pcT_nil (w : World) (A : Option Addr) (h : ∀ a, A = some a → a.block < w.heap.size) : (pcT A 0 0 (ints [])).I w :=
  ⟨⟨fun _ => ⟨rfl, rfl⟩, Nat.le_refl _, by decide, rfl, fun i q hq => by simp [ints] at hq⟩, h⟩
end Go.Proofs.YtiblpdjehknbcaaGreat.Pcs
/- What Halves answers. Printed by wip/gen/pcslaws.py. -/
namespace Go.Proofs.YtiblpdjehknbcaaGreat.Pcs
open Go Go.RowKit Lw
set_option linter.unusedVariables false
set_option linter.unusedSimpArgs false
def haB (b L i : Int) : Bool := isP b L i && decide (0 < L)
def haL (b L i : Int) : Int := if haB b L i = true then L - 1 else 0
def haX (b L i : Int) : Int := if haB b L i = true then 2 * i else 0
def haY (b L i : Int) : Int := if haB b L i = true then 2 * i + 1 else 0
end Go.Proofs.YtiblpdjehknbcaaGreat.Pcs
