/- Texts that the statements of this seat lean on, put together: SkFed, SkShown, SkPtA, SkOne, SkTrial, SkCopy, ColOwn, SkRef, SkDoc. -/
import Derived.Test.YthecgkgnngpikaaGreatMc
import Derived.Test.YthecgkgnngpikaaGreatMd
import Derived.Test.YthecgkgnngpikaaGreatMe
import Derived.Test.YthecgkgnngpikaaGreatMf
import Derived.Test.YthecgkgnngpikaaGreatMg
import Derived.Deep.LoopGhost
import Derived.Deep.RegionHeld3
import Derived.Deep.DeepCutAuto
import Derived.Deep.QuietTactic
import Derived.BigQuiet
import Derived.Laws.EntriesVeiled
import Derived.WalkSpells
/- fed of layer 10's laws. Printed by wip/gen/skfed2.py. -/
namespace Go.Proofs.YthecgkgnngpikaaGreat.Sk
open Go Go.RowKit Lw Grd Lin Con Shp
set_option linter.unusedVariables false
set_option linter.unusedSimpArgs false
/-- The updates from the one place to the other, cut. -/
def upsR (c : Cfg) (l : Int) (qs : Ups) (f t : Nat) : Ups := ((qs.take t).drop f).map (cutU c l)
theorem upsR_zero (c : Cfg) (l : Int) (qs : Ups) (f : Nat) : upsR c l qs f f = [] := by
  unfold upsR
  rw [List.drop_of_length_le (by rw [List.length_take]; omega)]
  rfl
theorem upsR_next {c : Cfg} {l : Int} {qs : Ups} {f k : Nat} {q : Int × Int} (hq : qs[k]? = some q) (hf : f ≤ k) : upsR c l qs f (k + 1) = upsR c l qs f k ++ [cutU c l q] := by
  obtain ⟨h1, h2⟩ := List.getElem?_eq_some_iff.1 hq
  unfold upsR
  rw [List.take_succ_eq_append_getElem h1, List.drop_append_of_le_length (by rw [List.length_take]; omega), List.map_append, h2]
  rfl
theorem upsR_len (c : Cfg) (l : Int) (qs : Ups) (f t : Nat) : (upsR c l qs f t).length ≤ t := by
  unfold upsR
  rw [List.length_map, List.length_drop, List.length_take]
  omega
theorem upsR_in {c : Cfg} {l : Int} (hk : 1 ≤ keys c l) (qs : Ups) (f t : Nat) : UpsIn c l (upsR c l qs f t) := upsIn_cut hk _
theorem upsR_end {c : Cfg} {l : Int} {qs : Ups} {f k t : Nat} (hk : k ≤ t) (h : k = t ∨ qs.length ≤ k) : upsR c l qs f k = upsR c l qs f t := by
  unfold upsR
  rcases h with rfl | h
  · rfl
  · rw [List.take_of_length_le h, List.take_of_length_le (by omega)]
theorem skI {w : World} {p : Addr} {F : Nat → Prop} {c : Cfg} {l : Int} {L : List (List Int)} (h : (skT p F c l L).I w) : SK w p F c l L := h
theorem two_boxs (w : World) (e1 e2 : TypeId) (v1 v2 : Array Value) : Have w ((w.alloc (.cells v1 e1)).alloc (.cells v2 e2)) [boxT (w.heap.size + 1) e2 v2, boxT w.heap.size e1 v1] := by
  refine (box_new w e1 v1).push (boxT (w.heap.size + 1) e2 v2) (Lw.below_alloc (Below.refl _ _) _) ?_ (fun k hk => ?_)
  · have h := heap_alloc_new (w.alloc (.cells v1 e1)) (.cells v2 e2)
    rw [World.size_alloc] at h
    exact h
  · rw [World.size_alloc]
    exact Nat.le_of_eq hk.symm
theorem box5 {w : World} {b : Nat} {e : TypeId} {v0 v1 v2 v3 v4 : Value} (h : (boxT b e #[v0, v1, v2, v3, v4]).I w) : w.cell? ⟨b, 0, none⟩ = some v0 ∧ w.cell? ⟨b, 1, none⟩ = some v1 ∧ w.cell? ⟨b, 2, none⟩ = some v2 ∧ w.cell? ⟨b, 3, none⟩ = some v3 ∧ w.cell? ⟨b, 4, none⟩ = some v4 :=
  ⟨box_cell h rfl, box_cell h rfl, box_cell h rfl, box_cell h rfl, box_cell h rfl⟩
theorem box7 {w : World} {b : Nat} {e : TypeId} {v0 v1 v2 v3 v4 v5 v6 : Value} (h : (boxT b e #[v0, v1, v2, v3, v4, v5, v6]).I w) : w.cell? ⟨b, 0, none⟩ = some v0 ∧ w.cell? ⟨b, 1, none⟩ = some v1 ∧ w.cell? ⟨b, 2, none⟩ = some v2 ∧ w.cell? ⟨b, 3, none⟩ = some v3 ∧ w.cell? ⟨b, 4, none⟩ = some v4 ∧ w.cell? ⟨b, 5, none⟩ = some v5 ∧ w.cell? ⟨b, 6, none⟩ = some v6 :=
  ⟨box_cell h rfl, box_cell h rfl, box_cell h rfl, box_cell h rfl, box_cell h rfl, box_cell h rfl, box_cell h rfl⟩
theorem boxs_frozen {w : World} {b : Nat} {e : TypeId} {vs : Array Value} (h : (boxT b e vs).I w) (i : Nat) : w.frozen? ⟨b, i, none⟩ = false := by
  have h1 : w.heap[b]? = some (.cells vs e (0, 0)) := h
  simp [World.frozen?, h1]
theorem boxs_set {w : World} {b : Nat} {e : TypeId} {vs : Array Value} (h : (boxT b e vs).I w) (i : Nat) (v : Value) : (boxT b e (vs.setIfInBounds i v)).I (w.setCell ⟨b, i, none⟩ v) := by
  have h1 : w.heap[b]? = some (.cells vs e (0, 0)) := h
  show (w.setCell ⟨b, i, none⟩ v).heap[b]? = _
  simp [World.setCell, Array.getElem?_modify, h1]
theorem store5 {w : World} {b : Nat} {e : TypeId} {u0 u1 u2 u3 u4 : Value} (h : (boxT b e #[u0, u1, u2, u3, u4]).I w) (v0 v1 v2 v3 v4 : Value) :
    (boxT b e #[v0, v1, v2, v3, v4]).I ((((((w.setCell ⟨b, 0, none⟩ v0).setCell ⟨b, 1, none⟩ v1).setCell ⟨b, 2, none⟩ v2).setCell ⟨b, 3, none⟩ v3).setCell ⟨b, 4, none⟩ v4).drew) := by
  have q := boxs_set (boxs_set (boxs_set (boxs_set (boxs_set h 0 v0) 1 v1) 2 v2) 3 v3) 4 v4
  exact (boxT b e #[v0, v1, v2, v3, v4]).keep _ _ (fun _ => False) q (Kept.of_below (Below.drew (Below.refl _ _))) (fun _ _ h => h)
theorem store_have {w0 w w' : World} {t0 t1 : Thing} {b : Nat} {e : TypeId} {vs : Array Value} {ts : List Thing} (h : Have w0 w (t0 :: t1 :: boxT b e vs :: ts)) (hk : Kept (fun k => k = b) w w') : Have w0 w' [t0] := by
  have hb : Below w0.heap.size w0 w' := hk.low h.below h.below.size (fun q hq => by subst hq; exact h.f2 q rfl)
  have h2 : Have w0 w [t0] := ⟨h.i0, h.f0, fun u hu => by simp at hu, h.below⟩
  exact Have.keep hk hb h2 (fun t ht k h3 h4 => by simp at ht; subst ht; exact h.ap02 k h3 h4)
/-- The config of a Play of layer 10, of a mode. -/
def cfgP (x : Cfg) (md : Int) : Cfg := { anyC x 8 9 with md := md }
theorem cfgP_right (x : Cfg) (md : Int) (h0 : 1 ≤ md) (h1 : md ≤ 3) : IsRight (cfgP x md) ∧ (cfgP x md).bt ≤ 8 := by
  have h := any_right x 8 9 (by omega) (by omega) (by omega) (by omega)
  refine ⟨⟨h.1, h.2.1, h.2.2.1, h.2.2.2.1, h.2.2.2.2.1, h.2.2.2.2.2.1, h0, h1⟩, ?_⟩
  show 1 + x.bt % 65536 % 8 ≤ 8
  omega
theorem cfgP_ok (x : Cfg) (hx : x.Ok) (md : Int) (h0 : 1 ≤ md) (h1 : md ≤ 3) : (cfgP x md).Ok := by
  have h := any_ok x hx 8 9 (by omega) (by omega) (by omega) (by omega)
  exact ⟨h.b0, h.b1, h.r0, h.r1, h.w0, h.w1, by show -9223372036854775808 ≤ md; omega, by show md ≤ 9223372036854775807; omega, h.s0, h.s1⟩
end Go.Proofs.YthecgkgnngpikaaGreat.Sk
/- shown of layer 10's laws. Printed by wip/gen/skshown.py. -/
namespace Go.Proofs.YthecgkgnngpikaaGreat.Sk
open Go Go.RowKit Lw Grd Lin Con Shp
set_option linter.unusedVariables false
set_option linter.unusedSimpArgs false
def sA : Cfg := ⟨3, 2, 1, 1, 0⟩
theorem sA_ok : sA.Ok := by constructor <;> decide
theorem sA_r : IsRight sA := by decide
theorem sA_rw : rws sA = 2 := rfl
theorem sA_wd : wds sA = 1 := rfl
theorem sA_k0 : keys sA 0 = 8 := by decide
theorem sA_k4 : keys sA 4 = 0 := by decide
theorem sA_cols {k : Int} (h1 : k < 8) : cols sA 0 k = [0, 0] := by
  have h : ∀ r, col sA 0 k r = 0 := fun r => by
    have h2 := col_range sA_r 0 k r
    have e : sA.wd = 1 := rfl
    omega
  rw [cols_yes (by rw [sA_k0]; exact h1)]
  show (List.range 2).map (col sA 0 k) = [0, 0]
  simp [List.range, List.range.loop, h]
def sB : List (List Int) := [[5], [5]]
def sD : List (List Int) := [[7], [7]]
theorem u1 : upCode sA 0 (zerosL 2 1) 0 5 = 0 ∧ upRes sA 0 (zerosL 2 1) 0 5 = sB := by
  unfold upCode upRes
  rw [sA_cols (by omega), sA_k0, if_neg (by omega), if_neg (by decide), if_neg (by omega), if_neg (by decide)]
  decide
theorem u2 : upCode sA 0 sB 1 2 = 0 ∧ upRes sA 0 sB 1 2 = sD := by
  unfold upCode upRes
  rw [sA_cols (by omega), sA_k0, if_neg (by omega), if_neg (by decide), if_neg (by omega), if_neg (by decide)]
  decide
theorem u3 : upCode sA 0 sD 8 2 = 2 ∧ upRes sA 0 sD 8 2 = sD := by
  unfold upCode upRes
  rw [sA_k0, if_pos (by omega), if_pos (by omega)]
  exact ⟨rfl, rfl⟩
theorem p1 : ptVal sA 0 sD 0 = 7 ∧ ptCode sA 0 0 = 0 := by
  unfold ptVal ptCode
  rw [sA_cols (by omega), sA_k0, if_neg (by omega), if_neg (by decide), if_neg (by omega)]
  refine ⟨?_, rfl⟩
  unfold lea
  rw [(Ord.kv_yes (k := 0) (by omega) (by decide)).1]
  exact (Ord.least_eq _ 7 (by decide) (by decide)).symm
theorem n_yes (w : World) : Calls Tryz.prog 6 #[.agg #[.int .i64 3, .int .i64 2, .int .i64 1, .int .i64 1, .int .u64 0], .int .i64 0] w fun e w' => ∃ (p : Addr) (F : Nat → Prop), e = .returned (.tuple #[.pointer (some p), .int .i64 0]) ∧ SK w' p F sA 0 (zerosL 2 1) ∧ (∀ k, F k → w.heap.size ≤ k) ∧ Below w.heap.size w w' := snew_yes sA 0 w sA_ok (by omega) (by omega) (by rw [sA_k0]; omega)
theorem n_no (w : World) : Calls Tryz.prog 6 #[.agg #[.int .i64 3, .int .i64 2, .int .i64 1, .int .i64 1, .int .u64 0], .int .i64 4] w fun e w' => e = .returned (.tuple #[.pointer none, .int .i64 1]) ∧ Below w.heap.size w w' := snew_no sA 4 w sA_ok (by omega) (by omega) sA_k4
theorem c_any (p : Addr) (F : Nat → Prop) (w : World) (h : SK w p F sA 0 sD) : Calls Tryz.prog 21 #[.pointer (some p)] w fun e w' => e = .returned (.agg #[.int .i64 3, .int .i64 2, .int .i64 1, .int .i64 1, .int .u64 0]) ∧ Below w.heap.size w w' := sconfig_any p F sA 0 sD w h
theorem l_any (p : Addr) (F : Nat → Prop) (w : World) (h : SK w p F sA 0 sD) : Calls Tryz.prog 19 #[.pointer (some p)] w fun e w' => ∃ (g : Nat) (cap : Nat), e = .returned (.slice (some ⟨g, 0, none⟩) 2 cap) ∧ w'.cell? ⟨g, 1, none⟩ = some (.int .i64 7) ∧ (2 : Int) ≤ cap ∧ Below w.heap.size w w' :=
  (scells_mid p F sA 0 sD w h).mono fun e w' ⟨g, cap, e1, h1, _, h2, _, h5⟩ => ⟨g, cap, e1, (h1.cell (j := 1) (v := 7) rfl), by have : 2 ≤ cap := h2; omega, h5⟩
theorem up_any (p : Addr) (F : Nat → Prop) (L M : List (List Int)) (k d x : Int) (w : World) (h : SK w p F sA 0 L) (k0 : 0 ≤ k) (k1 : k ≤ 18446744073709551615) (d0 : -9223372036854775808 ≤ d) (d1 : d ≤ 9223372036854775807) (hu : upCode sA 0 L k d = x ∧ upRes sA 0 L k d = M) :
    Calls Tryz.prog 17 #[.pointer (some p), .int .u64 k, .int .i64 d] w fun e w' => e = .returned (.int .i64 x) ∧ ∃ F', SK w' p F' sA 0 M ∧ Kept F w w' ∧ (∀ q, F' q → F q ∨ w.heap.size ≤ q) := by
  have C := supd_any p F sA 0 L k d w h k0 k1 d0 d1
  rw [hu.1, hu.2] at C
  exact C
theorem pt_any (p : Addr) (F : Nat → Prop) (w : World) (h : SK w p F sA 0 sD) : Calls Tryz.prog 8 #[.pointer (some p), .int .u64 0] w fun e w' => e = .returned (.tuple #[.int .i64 7, .int .i64 0]) ∧ Below w.heap.size w w' := by
  have C := spoint_any p F sA 0 sD 0 w h (by omega) (by omega)
  rw [p1.1, p1.2] at C
  exact C
set_option maxRecDepth 100000 in
set_option maxHeartbeats 4000000 in
theorem shown_any (w : World) : Calls Tryz.prog 4 #[] w fun e w' => e = .returned (.bool true) ∧ Below w.heap.size w w' := by
  have HV0 : Hid (Have w w []) := Lib.hid (Have.nil w)
  have hfd : ∀ w : World, (Instr.field 24 (.agg #[.int .i64 3, .int .i64 2, .int .i64 1, .int .i64 1, .int .u64 0]) 1).run Tryz.prog w = .ok (.int .i64 2) w := fun _ => by kernel_rfl
  go_enter Tryz.func4, Tryz.ntmps4
  go_wp2_with (first
    | (go_at_call 21; (with_reducible refine (c_any p F4 _ (skI HV8.out.i0)).mono ?_); rintro e w9 ⟨rfl, hb⟩; have HV9 := Lib.hid (HV8.out.up hb); clear hb)
    | (go_at_call 22; (with_reducible refine (slevel_any p F4 sA 0 sD _ (skI HV7.out.i0)).mono ?_); rintro e w8 ⟨rfl, hb⟩; have HV8 := Lib.hid (HV7.out.up hb); clear hb)
    | (go_at_call 19; (with_reducible refine (l_any p F4 _ (skI HV6.out.i0)).mono ?_); rintro e w7 ⟨a7, cap7, rfl, c7, hc7, hb⟩; have HV7 := Lib.hid (HV6.out.up hb); clear hb)
    | (go_at_call 8; (with_reducible refine (pt_any p F4 _ (skI HV5.out.i0)).mono ?_); rintro e w6 ⟨rfl, hb⟩; have HV6 := Lib.hid (HV5.out.up hb); clear hb)
    | (go_at_call 17; (with_reducible refine (up_any p F3 sD sD 8 2 2 _ (skI HV4.out.i0) (by omega) (by omega) (by omega) (by omega) u3).mono ?_); rintro e w5 ⟨rfl, F4, h1, h2, h3⟩; have HV5 := Lib.hid (HV4.out.turn_0 (skT p F4 sA 0 sD) h1 h2 h3); clear h1 h2 h3)
    | (go_at_call 17; (with_reducible refine (up_any p F2 sB sD 1 2 0 _ (skI HV3.out.i0) (by omega) (by omega) (by omega) (by omega) u2).mono ?_); rintro e w4 ⟨rfl, F3, h1, h2, h3⟩; have HV4 := Lib.hid (HV3.out.turn_0 (skT p F3 sA 0 sD) h1 h2 h3); clear h1 h2 h3)
    | (go_at_call 17; (with_reducible refine (up_any p F1 (zerosL 2 1) sB 0 5 0 _ (skI HV2.out.i0) (by omega) (by omega) (by omega) (by omega) u1).mono ?_); rintro e w3 ⟨rfl, F2, h1, h2, h3⟩; have HV3 := Lib.hid (HV2.out.turn_0 (skT p F2 sA 0 sB) h1 h2 h3); clear h1 h2 h3)
    | (go_at_call 6; (with_reducible refine (n_no _).mono ?_); rintro e w2 ⟨rfl, hb⟩; have HV2 := Lib.hid (HV1.out.up hb); clear hb)
    | (go_at_call 6; (with_reducible refine (n_yes _).mono ?_); rintro e w1 ⟨p, F1, rfl, h1, h2, hb⟩; have HV1 := Lib.hid (HV0.out.push (skT p F1 sA 0 (zerosL 2 1)) hb h1 h2); clear h1 h2 hb))
  all_goals go_ret
  all_goals exact ⟨ret_bs (by first | rfl | (simp [*]; done)), HV9.out.below⟩
end Go.Proofs.YthecgkgnngpikaaGreat.Sk
/- What SketchPoint and SketchMedian lean on. Printed by wip/gen/skpoint.py. -/
namespace Go.Proofs.YthecgkgnngpikaaGreat.Sk
open Go Go.RowKit Lw Grd Lin Con Shp
set_option linter.unusedVariables false
set_option linter.unusedSimpArgs false
theorem upsA_R (c : Cfg) (l : Int) (qs : Ups) : upsA c l qs = upsR c l qs 0 60 := by unfold upsA upsR; rw [List.drop_zero]
end Go.Proofs.YthecgkgnngpikaaGreat.Sk
/- One update of a fresh sketch; what it is merged into changes; rows of numbers as things. Printed by wip/gen/skunl.py. -/
namespace Go.Proofs.YthecgkgnngpikaaGreat.Sk
open Go Go.RowKit Lw Grd Lin Con Shp
set_option linter.unusedVariables false
set_option linter.unusedSimpArgs false
/-- A row of numbers in a block of its own. -/
def midT (g : Nat) (zs : List Int) : Thing where
  I := fun w => Ord.Mid w g 0 zs
  F := fun k => k = g
  keep := fun w w' H h hk hf => h.keep hk (hf g rfl)
  lt := fun w h k hk => by subst hk; exact h.lt
theorem midI {w : World} {g : Nat} {zs : List Int} (h : (midT g zs).I w) : Ord.Mid w g 0 zs := h
theorem one_in {c : Cfg} {l d : Int} (hk : 1 ≤ keys c l) (d0 : 0 ≤ d) (d1 : d ≤ 1099511627776) : UpsIn c l [(0, d)] := by
  refine ⟨fun u hu => ?_, fun _ u hu => ?_⟩
  · simp at hu
    subst hu
    exact ⟨by omega, by show (0 : Int) < keys c l; omega, by show -1099511627776 ≤ d; omega, d1⟩
  · simp at hu
    subst hu
    exact d0
theorem one_up {c : Cfg} {l d : Int} (hr : IsRight c) (hk : 1 ≤ keys c l) (d0 : 0 ≤ d) (d1 : d ≤ 1099511627776) : upCode c l (zerosL (rws c) (wds c)) 0 d = 0 ∧ upRes c l (zerosL (rws c) (wds c)) 0 d = cells c l [(0, d)] := by
  have hn : UpsIn c l [] := ⟨fun u hu => by simp at hu, fun _ u hu => by simp at hu⟩
  have h := up_ok hr hn (by simp) (one_in hk d0 d1)
  rw [cells_nil] at h
  exact h
theorem one_least {c : Cfg} {l d : Int} (hk : 1 ≤ keys c l) (d0 : 0 ≤ d) (d1 : d ≤ 1099511627776) {q : Nat} (hq : col c l 0 0 = q) : d ≤ cel (cells c l [(0, d)]) 0 q := by
  have hin := one_in hk d0 d1
  have hr := (keys_pos.1 hk).1
  have h0 := (rws_bd hr).1
  have hkk : (0 : Int) < keys c l := by omega
  have hok := opsU_ok hin.1
  have hm := cols_meet (c := c) (l := l) (k := 0) (Int.le_refl _) hkk
  by_cases h2 : c.md = 2
  · have hro := rose_all (rose_zero (rws c) (wds c)) hok (plus_of hin h2)
    rw [List.nil_append] at hro
    have hown : Lin.own (cols c l 0) (opsU c l [(0, d)]) = d := by simp [opsU, Lin.own]
    have hcr := col_range hr l 0 0
    have hwd := wds_bd hr
    have ho := hro.ow (cols c l 0) hm 0 q (by omega) (by omega) (by rw [cols_at hkk (by omega), hq])
    rw [cells_con h2]
    omega
  · rw [cells_lin h2]
    have hsz := chAll_sz (sz_zeros (rws c) (wds c)) hok
    have hn := named_cel hsz hm (r := 0) (v := q) (by omega) (by rw [cols_at hkk (by omega), hq])
    have hk2 := named_key hin.1 (Int.le_refl _) hkk (r := 0) (by omega)
    rw [hn] at hk2
    injection hk2 with hk2
    rw [hk2]
    simp [hasK, othK]
theorem cel_sum {m n : Nat} {L M : List (List Int)} (hL : Sz m n L) (hM : Sz m n M) {r q : Nat} (hr : r < m) (hq : q < n) : cel (gridS 1 L M) r q = cel L r q + cel M r q := by
  have g1 : r < L.length := by rw [hL.1]; exact hr
  have g2 : r < M.length := by rw [hM.1]; exact hr
  have g3 := hL.2 _ (List.getElem_mem g1)
  have g4 := hM.2 _ (List.getElem_mem g2)
  unfold cel gridS
  rw [List.getElem?_zipWith, List.getElem?_eq_getElem g1, List.getElem?_eq_getElem g2]
  simp only [Option.getD_some]
  unfold rowS
  rw [List.getElem?_zipWith, List.getElem?_eq_getElem (by omega), List.getElem?_eq_getElem (by omega)]
  simp
theorem sz_of_dims {m n : Nat} {L : List (List Int)} (h : Dims m n L) : Sz m n L := ⟨h.len, fun r hr => (h.rows r hr).1⟩
theorem cel_flat {m n : Nat} {L : List (List Int)} (h : Sz m n L) {r q : Nat} (hr : r < m) (hq : q < n) : cel L r q = (L.flatten[r * n + q]?).getD 0 := by
  rw [flat_get r q h.2 (by rw [h.1]; exact hr) hq]
  rfl
theorem cells_sz {c : Cfg} {l : Int} {us : Ups} (h : UpsIn c l us) : Sz (rws c) (wds c) (cells c l us) := by
  have hok := opsU_ok h.1
  by_cases h2 : c.md = 2
  · rw [cells_con h2]
    have hro := rose_all (rose_zero (rws c) (wds c)) hok (plus_of h h2)
    exact hro.sg
  · rw [cells_lin h2]
    exact chAll_sz (sz_zeros (rws c) (wds c)) hok
/-- What has something is merged in: some cell is another one. -/
theorem one_merge {c : Cfg} {l a b : Int} (hk : 1 ≤ keys c l) (a0 : 0 ≤ a) (a1 : a ≤ 1099511627776) (b0 : 1 ≤ b) (b1 : b ≤ 1099511627776) :
    mgCode 1 c c l l (cells c l [(0, a)]) (cells c l [(0, b)]) = 0 ∧ (mgRes 1 c c l l (cells c l [(0, a)]) (cells c l [(0, b)])).flatten ≠ (cells c l [(0, a)]).flatten := by
  have hia := one_in hk a0 a1
  have hib := one_in (d := b) hk (by omega) b1
  have hr := (keys_pos.1 hk).1
  have hs1 := cells_sz hia
  have hs2 := cells_sz hib
  have hf : fitsAll (gridS 1 (cells c l [(0, a)]) (cells c l [(0, b)])) = true := by
    have h1 := opsU_ok hia.1
    have h2 := opsU_ok hib.1
    by_cases hm : c.md = 2
    · rw [cells_con hm, cells_con hm]
      exact join_fits (m := rws c) (n := wds c) (rose_dims h1 (plus_of hia hm) (by rw [opsU_len]; simp)).2 (rose_dims h2 (plus_of hib hm) (by rw [opsU_len]; simp)).2
    · rw [cells_lin hm, cells_lin hm]
      exact join_fits (m := rws c) (n := wds c) (within_mono (chAll_within (c := 1099511627776) (by omega) (b := 0) (Int.le_refl _) (within_zeros (rws c) (wds c)) h1) (c := 65970697666560) (by rw [opsU_len]; simp)) (within_mono (chAll_within (c := 1099511627776) (by omega) (b := 0) (Int.le_refl _) (within_zeros (rws c) (wds c)) h2) (c := 65970697666560) (by rw [opsU_len]; simp))
  have hj := jcode_yes (s := 1) (m := rws c) (n := wds c) hf
  have hce : cfgE c c = true := decide_eq_true ⟨rfl, rfl, rfl, rfl, rfl⟩
  have hs1x : ¬ ((1 : Int) = -1 ∧ c.md = 2) := by omega
  unfold mgCode mgRes
  rw [if_pos (show cfgE c c = true ∧ l = l from ⟨hce, rfl⟩), if_pos (show cfgE c c = true ∧ l = l from ⟨hce, rfl⟩), if_neg hs1x, if_neg hs1x]
  refine ⟨hj.1, ?_⟩
  rw [hj.2]
  intro he
  have hw := rws_bd hr
  have hv := wds_bd hr
  have hcr := col_range hr l 0 0
  obtain ⟨q, hq⟩ : ∃ q : Nat, col c l 0 0 = q := ⟨(col c l 0 0).toNat, by omega⟩
  have hqn : q < wds c := by omega
  have hsg : Sz (rws c) (wds c) (gridS 1 (cells c l [(0, a)]) (cells c l [(0, b)])) := by
    refine ⟨by unfold gridS; rw [List.length_zipWith, hs1.1, hs2.1]; omega, fun r hr => ?_⟩
    obtain ⟨x, g1, y, g2, rfl⟩ := mem_zip hr
    unfold rowS
    rw [List.length_zipWith, hs1.2 x g1, hs2.2 y g2]
    omega
  have e1 := cel_sum hs1 hs2 (r := 0) (q := q) (by omega) hqn
  have e2 := cel_flat hsg (r := 0) (q := q) (by omega) hqn
  have e3 := cel_flat hs1 (r := 0) (q := q) (by omega) hqn
  rw [he] at e2
  have e4 := one_least (c := c) (l := l) (d := b) hk (by omega) b1 hq
  omega
end Go.Proofs.YthecgkgnngpikaaGreat.Sk
/- A grid of one column, on which an update is tried, in numbers. Printed by wip/gen/skcopy.py. -/
namespace Go.Proofs.YthecgkgnngpikaaGreat.Sk
open Go Go.RowKit Lw Grd Lin Con Shp
set_option linter.unusedVariables false
def trialL (L : List (List Int)) (cols : List Int) (m k : Nat) : List (List Int) := (List.range m).map (fun j => [if j < k then ((named L cols)[j]?).getD 0 else 0])
theorem trial_len (L : List (List Int)) (cols : List Int) (m k : Nat) : (trialL L cols m k).length = m := by unfold trialL; simp
theorem trial_get {L : List (List Int)} {cols : List Int} {m k j : Nat} (h : j < m) : (trialL L cols m k)[j]? = some [if j < k then ((named L cols)[j]?).getD 0 else 0] := by
  unfold trialL
  rw [List.getElem?_map, List.getElem?_range h]
  rfl
theorem trial_zero (L : List (List Int)) (cols : List Int) (m : Nat) : trialL L cols m 0 = zerosL m 1 := by
  apply List.ext_getElem?
  intro j
  by_cases h : j < m
  · rw [trial_get h, if_neg (by omega)]
    unfold zerosL
    rw [List.getElem?_replicate, if_pos h]
    rfl
  · rw [List.getElem?_eq_none (by rw [trial_len]; omega), List.getElem?_eq_none (by unfold zerosL; simp; omega)]
theorem trial_put {L : List (List Int)} {cols : List Int} {m k : Nat} {x : Int} (hk : k < m) (hx : (named L cols)[k]? = some x) : setL (trialL L cols m k) (k : Int) 0 x = trialL L cols m (k + 1) := by
  have hin : in2 (trialL L cols m k) (k : Int) 0 = true := by
    unfold in2
    rw [Int.toNat_natCast, trial_get hk, trial_len]
    simp
    omega
  unfold setL
  rw [if_pos hin, Int.toNat_natCast]
  apply List.ext_getElem?
  intro j
  rw [List.getElem?_modify]
  by_cases h : j < m
  · rw [trial_get h, trial_get h]
    simp only [Option.map_eq_map, Option.map_some]
    by_cases hj : k = j
    · subst hj
      simp [hx]
    · rw [if_neg hj]
      by_cases h1 : j < k
      · rw [if_pos h1, if_pos (show j < k + 1 by omega)]
      · rw [if_neg h1, if_neg (show ¬ j < k + 1 by omega)]
  · rw [List.getElem?_eq_none (by rw [trial_len]; omega), List.getElem?_eq_none (by rw [trial_len]; omega)]
    rfl
theorem trial_named {L : List (List Int)} {cols : List Int} {m : Nat} (hl : (named L cols).length = m) : named (trialL L cols m m) (List.replicate m 0) = named L cols := by
  apply List.ext_getElem?
  intro j
  by_cases h : j < m
  · have h2 : j < (named L cols).length := by omega
    unfold named
    rw [List.getElem?_zipWith, trial_get h, List.getElem?_replicate, if_pos h, if_pos h]
    have e : (named L cols)[j]? = some ((named L cols)[j]) := List.getElem?_eq_getElem h2
    have e2 : (List.zipWith (fun r c => r[c.toNat]?.getD 0) L cols)[j]? = some ((named L cols)[j]) := e
    rw [e2, e]
    rfl
  · rw [List.getElem?_eq_none (by unfold named; rw [List.length_zipWith, trial_len]; omega), List.getElem?_eq_none (by omega)]
theorem trial_meets {m : Nat} (h : 1 ≤ m) : Meets m 1 (List.replicate m 0) := ⟨h, by simp, fun v hv => by
  have := (List.mem_replicate.1 hv).2
  omega⟩
theorem named_size {m n : Nat} {L : List (List Int)} {cols : List Int} (hd : Dims m n L) (h : Meets m n cols) : (named L cols).length = m := by
  unfold named
  rw [List.length_zipWith, hd.len, h.2.1]
  omega
theorem trial_ch {m n : Nat} {L : List (List Int)} {cols : List Int} {d : Int} (hd : Dims m n L) (h : Meets m n cols) : chCode m 1 (trialL L cols m m) (List.replicate m 0) d = chCode m n L cols d := by
  unfold chCode
  rw [if_pos (trial_meets h.1), if_pos h]
  unfold chFits
  rw [trial_named (named_size hd h)]
theorem trial_rs {m n : Nat} {L : List (List Int)} {cols : List Int} {d : Int} (hd : Dims m n L) (h : Meets m n cols) : rsCode m 1 (trialL L cols m m) (List.replicate m 0) d = rsCode m n L cols d := by
  unfold rsCode
  rw [if_pos (trial_meets h.1), if_pos h]
  unfold lea
  rw [trial_named (named_size hd h)]
theorem in64_zero (m : Nat) : In64 (List.replicate m 0) := fun v hv => by
  have := (List.mem_replicate.1 hv).2
  omega
end Go.Proofs.YthecgkgnngpikaaGreat.Sk
/- The code's sketch: Copy and Check. Printed by wip/gen/skcopy.py. -/
namespace Go.Proofs.YthecgkgnngpikaaGreat.Sk
open Go Go.RowKit Lw Grd Lin Con Shp
set_option linter.unusedVariables false
set_option linter.unusedSimpArgs false
theorem pgI {w : World} {p : Addr} {F : Nat → Prop} {m n : Nat} {L : List (List Int)} (h : (pgT p F m n L).I w) : PG w p F m n L := h
theorem made_rd {X : World} {n g : Nat} {T : TypeId} (h : X.heap.size = g) : Rd .i64 (X.alloc (.cells (madeCells #[.int .i64 0] n) T)) (some ⟨g, 0, none⟩) (List.replicate n 0) := by
  subst h
  exact (Grd.mid_made X n T).rd
theorem at2_in64 {m n : Nat} {L : List (List Int)} (hd : Dims m n L) {r c : Int} : -9223372036854775808 ≤ at2 L r c ∧ at2 L r c ≤ 9223372036854775807 := by
  unfold at2
  split
  · omega
  · cases h1 : L[r.toNat]? with
    | none => simp
    | some row =>
      simp only [Option.getD_some]
      cases h2 : row[c.toNat]? with
      | none => simp
      | some v => exact (hd.rows row (List.mem_of_getElem? h1)).2 v (List.mem_of_getElem? h2)
theorem int_info : (Tryz.prog.info? 3).map (fun i => (i.zero, i.size, i.bytes)) = some (some (.int .i64 0), 1, 8) := by kernel_rfl
theorem ints_u : Tryz.prog.underlying 58 = some (.slice 3) := by kernel_rfl
set_option maxRecDepth 100000 in
set_option maxHeartbeats 4000000 in
theorem scopy_any (p : Addr) (F : Nat → Prop) (c : Cfg) (l : Int) (L : List (List Int)) (w : World) (h : SK w p F c l L) :
    Calls Tryz.prog 16 #[.pointer (some p)] w fun e w' => ∃ (q : Addr) (G : Nat → Prop), e = .returned (.pointer (some q)) ∧ SK w' q G c l L ∧ (∀ k, G k → w.heap.size ≤ k) ∧ Below w.heap.size w w' := by
  obtain ⟨hr, hok, hl0, hl1, b, gp, G, rfl, hb, hg, hGb, rfl⟩ := h
  have hbl := size_of_heap hb
  have c0 := grd_cell hb 0 (v := .pointer (some gp)) rfl
  have c1 := grd_cell hb 1 (v := .int .i64 c.bt) rfl
  have c2 := grd_cell hb 2 (v := .int .i64 c.rw) rfl
  have c3 := grd_cell hb 3 (v := .int .i64 c.wd) rfl
  have c4 := grd_cell hb 4 (v := .int .i64 c.md) rfl
  have c5 := grd_cell hb 5 (v := .int .u64 c.sd) rfl
  have c6 := grd_cell hb 6 (v := .int .i64 l) rfl
  have HR := Lib.hid (And.intro hr (And.intro hok (And.intro hl0 hl1)))
  have CP := Lib.hid (fun w' hd => copy_any gp G (rws c) (wds c) L w' hd)
  have HG := Lib.hid hg
  clear hb hg hr hok hl0 hl1
  go_enter Tryz.func16, Tryz.ntmps16
  go_upto_region 1 with fail
  go_region_held3 (fun w' => w'.cell? ⟨b, 0, none⟩ = some (.pointer (some gp)) ∧ w'.cell? ⟨b, 1, none⟩ = some (.int .i64 c.bt) ∧ w'.cell? ⟨b, 2, none⟩ = some (.int .i64 c.rw) ∧ w'.cell? ⟨b, 3, none⟩ = some (.int .i64 c.wd) ∧ w'.cell? ⟨b, 4, none⟩ = some (.int .i64 c.md) ∧ w'.cell? ⟨b, 5, none⟩ = some (.int .u64 c.sd) ∧ w'.cell? ⟨b, 6, none⟩ = some (.int .i64 l)) (first | (refine ⟨?_, ?_, ?_, ?_, ?_, ?_, ?_⟩ <;> (first | (with_reducible assumption) | (with_reducible refine cell_up c0 ?_) | (with_reducible refine cell_up c1 ?_) | (with_reducible refine cell_up c2 ?_) | (with_reducible refine cell_up c3 ?_) | (with_reducible refine cell_up c4 ?_) | (with_reducible refine cell_up c5 ?_) | (with_reducible refine cell_up c6 ?_)) <;> repeat' (first | (with_reducible exact Below.refl _ _) | (with_reducible assumption) | (with_reducible refine below_over ?_ _ _) | (with_reducible refine Lw.below_alloc ?_ _) | (with_reducible refine Below.drew ?_) | (with_reducible refine below_drewN ?_ _) | (with_reducible refine Below.setCell ?_ ?_ _) | go_size))) (first
    | (go_at_call 41; (with_reducible refine (CP.out _ (pg_up HG.out (by repeat' (first | (with_reducible exact Below.refl _ _) | (with_reducible assumption) | (with_reducible refine below_over ?_ _ _) | (with_reducible refine Lw.below_alloc ?_ _) | (with_reducible refine Below.drew ?_) | (with_reducible refine below_drewN ?_ _) | (with_reducible refine Below.setCell ?_ ?_ _) | go_size)))).mono ?_); rintro e w2 ⟨gq, Gq, rfl, hq1, hq2, hb2⟩; have HB2 : Hid (Below w.heap.size w w2) := Lib.hid (below_call (show Below w.heap.size w _ from (by repeat' (first | (with_reducible exact Below.refl _ _) | (with_reducible assumption) | (with_reducible refine below_over ?_ _ _) | (with_reducible refine Lw.below_alloc ?_ _) | (with_reducible refine Below.drew ?_) | (with_reducible refine below_drewN ?_ _) | (with_reducible refine Below.setCell ?_ ?_ _) | go_size))) hb2 (Nat.le_refl _)); have HQ := Lib.hid hq1; have HF : Hid (∀ k, Gq k → w.heap.size ≤ k) := Lib.hid (fun k hk => Nat.le_trans (Below.size (show Below w.heap.size w _ from (by repeat' (first | (with_reducible exact Below.refl _ _) | (with_reducible assumption) | (with_reducible refine below_over ?_ _ _) | (with_reducible refine Lw.below_alloc ?_ _) | (with_reducible refine Below.drew ?_) | (with_reducible refine below_drewN ?_ _) | (with_reducible refine Below.setCell ?_ ?_ _) | go_size)))) (hq2 k hk)); have hbw2 := HB2.out; clear hq1 hq2 hb2))
  all_goals go_wp2
  all_goals go_ret
  have hgl := fun k (hk : Gq k) => (pgT gq Gq _ _ _).lt _ HQ.out k hk
  have hn := heap_alloc_new w2 (.cells #[.pointer (some gq), .int .i64 c.bt, .int .i64 c.rw, .int .i64 c.wd, .int .i64 c.md, .int .u64 c.sd, .int .i64 l] 56)
  have hs := HB2.out.size
  refine ⟨⟨w2.heap.size, 0, none⟩, fun k => k = w2.heap.size ∨ Gq k, rfl, ⟨HR.out.1, HR.out.2.1, HR.out.2.2.1, HR.out.2.2.2, _, gq, Gq, rfl, hn, pg_alloc HQ.out _, fun hk => by have := hgl _ hk; omega, rfl⟩, fun k hk => ?_, ?_⟩
  · rcases hk with rfl | hk
    · exact hs
    · exact HF.out k hk
  · exact HB2.out.alloc hs _
set_option maxRecDepth 100000 in
theorem scheck_no (p : Addr) (F : Nat → Prop) (c : Cfg) (l : Int) (L : List (List Int)) (k d : Int) (w : World) (h : SK w p F c l L) (k0 : 0 ≤ k) (k1 : k ≤ 18446744073709551615) (hk : keys c l ≤ k) :
    Calls Tryz.prog 10 #[.pointer (some p), .int .u64 k, .int .i64 d] w fun e w' => e = .returned (.int .i64 2) ∧ Below w.heap.size w w' := by
  have CN := Lib.hid (scolumns_no p F c l L k w h k0 k1 hk)
  clear h
  go_enter Tryz.func10, Tryz.ntmps10
  go_wp2_with (go_at_call 26; (with_reducible refine CN.out.mono ?_); rintro e w1 ⟨rfl, hb1⟩; have HB1 := Lib.hid hb1; clear hb1)
  go_ret
  exact ⟨rfl, HB1.out⟩
set_option maxRecDepth 100000 in
set_option maxHeartbeats 4000000 in
theorem scheck_lin (p : Addr) (F : Nat → Prop) (c : Cfg) (l : Int) (L : List (List Int)) (k d : Int) (w : World) (h : SK w p F c l L) (k0 : 0 ≤ k) (k1 : k ≤ 18446744073709551615) (d0 : -9223372036854775808 ≤ d) (d1 : d ≤ 9223372036854775807) (hk : k < keys c l) (hm : c.md = 1) :
    Calls Tryz.prog 10 #[.pointer (some p), .int .u64 k, .int .i64 d] w fun e w' => e = .returned (.int .i64 (chCode (rws c) (wds c) L (cols c l k) d)) ∧ Below w.heap.size w w' := by
  obtain ⟨i0, hi, hi0, hi1, hi2⟩ := info_parts int_info
  have HS := Lib.hid h
  have hd := h.dims
  have hme := cols_meet k0 hk
  obtain ⟨hr, hok, hl0, hl1, b, gp, G, rfl, hb, hg, hGb, rfl⟩ := h
  have hbl := size_of_heap hb
  have c0w := grd_cell hb 0 (v := .pointer (some gp)) rfl
  have CY := Lib.hid (scolumns_yes _ _ c l L k w HS.out k0 k1 hk)
  have WY : Hid (∀ w', Below w.heap.size w w' → Calls Tryz.prog 27 #[.pointer (some ⟨b, 0, none⟩)] w' fun e w2 => e = .returned (.agg #[.func (.func 49) #[] #[], .func (.func 47) #[] #[], .bool true]) ∧ Below w'.heap.size w' w2) := Lib.hid (fun w' hb2 => way_lin _ _ c l L w' (HS.out.up hb2) hm)
  have hcl : (cols c l k).length = rws c := hme.2.1
  have hrw := rws_bd hr
  have RW := Lib.hid (fun w' hd => rows_any gp G (rws c) (wds c) L w' hd)
  have NW := Lib.hid (fun w' => new_any ((rws c : Nat) : Int) 1 w' (by omega) (by omega) (by omega) (by omega))
  have e1 : cl ((rws c : Nat) : Int) 8 = rws c := by rw [cl_of (by omega) (by omega)]; omega
  have e2 : cl 1 128 = 1 := by rw [cl_of (by omega) (by omega)]; rfl
  rw [e1, e2, ← trial_zero L (cols c l k)] at NW
  have AT := Lib.hid (fun (r v : Int) w' hd h0 h1 h2 h3 => at_any gp G (rws c) (wds c) L r v w' hd h0 h1 h2 h3)
  have NA := Lib.hid (fun r v (hv : (cols c l k)[r]? = some v) => named_at hd hme hv)
  have NB := Lib.hid (fun r x (hr2 : r < rws c) (hx : (named L (cols c l k))[r]? = some x) => trial_put (m := rws c) hr2 hx)
  have hin := cols_in c l k
  have HIN := Lib.hid hin
  have HAB := Lib.hid (fun r v => at2_in64 hd (r := r) (c := v))
  have CH := Lib.hid (fun tp TF A w' hp hrd hap => change_any tp TF (rws c) 1 (trialL L (cols c l k) (rws c) (rws c)) (some A) (rws c) (rws c) (List.replicate (rws c) 0) d w' hp hrd hap (by simp) (by omega) (in64_zero _) d0 d1)
  rw [trial_ch hd hme] at CH
  obtain ⟨V, hV⟩ : ∃ V, chCode (rws c) (wds c) L (cols c l k) d = V := ⟨_, rfl⟩
  rw [hV] at CH ⊢
  have HG := Lib.hid hg
  obtain ⟨m, hmm⟩ : ∃ m, rws c = m := ⟨_, rfl⟩
  rw [hmm] at CY RW NW NB CH hrw hcl HG AT
  obtain ⟨cs, hcs⟩ : ∃ cs, cols c l k = cs := ⟨_, rfl⟩
  rw [hcs] at CY NW NA NB CH hcl HIN
  have hm8 : 1 ≤ m ∧ m ≤ 8 := ⟨hrw.1, hrw.2.1⟩
  have HCL := Lib.hid hcl
  have hmk : ∀ w, (Instr.makeSlice 58 (.int .i64 (m : Int)) (.int .i64 (m : Int))).run Tryz.prog w = .ok (.slice (some ⟨w.heap.size, 0, none⟩) m m) (w.alloc (.cells (madeCells #[.int .i64 0] m) 3)) := by
    intro w
    have h := run_make (P := Tryz.prog) w 58 3 i0 (.int .i64 0) ints_u hi hi0 .i64 .i64 m m (by omega) (Int.le_refl _) (by rw [hi2]; omega) (by omega)
    rw [hi1] at h
    simpa [Value.cells] using h
  have HMK := Lib.hid hmk
  have hfd : ∀ w : World, (Instr.field 64 (.agg #[.func (.func 49) #[] #[], .func (.func 47) #[] #[], .bool true]) 0).run Tryz.prog w = .ok (.func (.func 49) #[] #[]) w := fun _ => by kernel_rfl
  have HFD := Lib.hid hfd
  clear hb hg hcl hrw hV hm hk hd hme hin hmm hcs e1 e2 hi hi0 hi1 hi2 hmk hfd
  go_enter Tryz.func10, Tryz.ntmps10
  go_wp2_with (first
    | (go_at_call 26; (with_reducible refine (CY.out).mono ?_); rintro e w1 ⟨g, rfl, hm1, hg1, hb1⟩; have HV1 := Lib.hid ((Have.nil w).push (midT g cs) hb1 hm1 (fun k hk => by subst hk; exact hg1)); clear hm1 hg1 hb1; have c0 := cell_up c0w HV1.out.below)
    | (go_at_call 32; (with_reducible refine (RW.out _ (pg_up HG.out HV1.out.below)).mono ?_); rintro e w2 ⟨rfl, hb⟩; have HV2 := Lib.hid (HV1.out.up hb); clear hb c0)
    | (go_at_call 24; (with_reducible refine (NW.out _).mono ?_); rintro e w3 ⟨tp, TF0, rfl, h1, h2, hb⟩; have HV3 := Lib.hid (HV2.out.push (pgT tp TF0 m 1 (trialL L cs m 0)) hb h1 h2); clear h1 h2 hb))
  go_loopw [29] (fun iv wr => ∃ (r : Nat) (TF : Nat → Prop), r ≤ m ∧ iv = .int .i64 r ∧ Have w wr [pgT tp TF m 1 (trialL L cs m r), midT g cs]) (fun iv _ => m - (intOf iv).toNat)
  case atStart => exact ⟨0, TF0, Nat.zero_le _, rfl, HV3.out⟩
  case round =>
    obtain ⟨r, TF, hr, rfl, hv⟩ := hrel
    have HVr := Lib.hid hv
    clear hv
    have c0 := cell_up c0w HVr.out.below
    by_cases hrm : r < m
    · obtain ⟨v, hv1⟩ : ∃ v, cs[r]? = some v := ⟨_, List.getElem?_eq_getElem (by rw [HCL.out]; exact hrm)⟩
      have hcv := (midI HVr.out.i1).cell hv1
      have hvb := HIN.out v (List.mem_of_getElem? hv1)
      have hna := NA.out r v hv1
      have hab := HAB.out (r : Int) v
      obtain ⟨x, hx⟩ : ∃ x, at2 L (r : Int) v = x := ⟨_, rfl⟩
      rw [hx] at hna hab
      have hnb := NB.out r x hrm hna
      have CA := Lib.hid (fun w' hb => AT.out (r : Int) v w' (pg_up HG.out hb) (by omega) (by omega) hvb.1 hvb.2)
      rw [hx] at CA
      have CPT := Lib.hid (fun w' hp => put_any tp TF m 1 (trialL L cs m r) (r : Int) 0 x w' hp (by omega) (by omega) (by omega) (by omega) hab.1 hab.2)
      rw [hnb] at CPT
      obtain ⟨bb, hbb⟩ : ∃ bb, in2 (trialL L cs m r) (r : Int) 0 = bb := ⟨_, rfl⟩
      rw [hbb] at CPT
      obtain ⟨ga, hga⟩ : ∃ ga : Addr, (⟨g, 0, none⟩ : Addr) = ga := ⟨_, rfl⟩
      rw [← Ord.add_at, hga] at hcv
      rw [hga]
      have hrm2 : (r : Int) < (m : Int) := by omega
      clear hx hna hnb hab hvb hv1 hbb
      go_wp2_with (first
        | (go_at_call 34; (with_reducible refine (CA.out _ (below_call HVr.out.below (by repeat' (first | (with_reducible exact Below.refl _ _) | (with_reducible assumption) | (with_reducible refine below_over ?_ _ _) | (with_reducible refine Lw.below_alloc ?_ _) | (with_reducible refine Below.drew ?_) | (with_reducible refine below_drewN ?_ _) | (with_reducible refine Below.setCell ?_ ?_ _) | go_size)) (Nat.le_refl _))).mono ?_); rintro e w5 ⟨rfl, hb⟩; have HV5 := Lib.hid (HVr.out.up hb); clear hb)
        | (go_at_call 33; (with_reducible refine (CPT.out _ (pgI HV5.out.i0)).mono ?_); rintro e w6 ⟨rfl, T6, h1, h2, h3⟩; have HV6 := Lib.hid (HV5.out.turn_0 (pgT tp T6 m 1 (trialL L cs m (r + 1))) h1 h2 h3); clear h1 h2 h3))
      go_roundw
      case rel => exact ⟨r + 1, T6, by omega, by go_num, HV6.out⟩
      case measure => simp [intOf]; omega
    · have e : r = m := by omega
      subst e
      have hlt3 : ¬ (r : Int) < (r : Int) := by omega
      have TLT := Lib.hid (fun q (hq : TF q) => (pgT tp TF _ _ _).lt wr HVr.out.i0 q hq)
      have hmk := HMK.out
      have hfd := HFD.out
      clear hrm
      go_upto_region 10 with fail
      go_region_held3 (fun w' => w'.cell? ⟨b, 0, none⟩ = some (.pointer (some gp))) (first | (with_reducible assumption) | (with_reducible refine cell_up c0 ?_ <;> (repeat' (first | (with_reducible exact Below.refl _ _) | (with_reducible assumption) | (with_reducible refine below_over ?_ _ _) | (with_reducible refine Lw.below_alloc ?_ _) | (with_reducible refine Below.drew ?_) | (with_reducible refine below_drewN ?_ _) | (with_reducible refine Below.setCell ?_ ?_ _) | go_size)))) (first
        | (go_at_call 27; (with_reducible refine (WY.out _ (below_call HVr.out.below (by repeat' (first | (with_reducible exact Below.refl _ _) | (with_reducible assumption) | (with_reducible refine below_over ?_ _ _) | (with_reducible refine Lw.below_alloc ?_ _) | (with_reducible refine Below.drew ?_) | (with_reducible refine below_drewN ?_ _) | (with_reducible refine Below.setCell ?_ ?_ _) | go_size)) (Nat.le_refl _))).mono ?_); rintro e w' ⟨rfl, hb2⟩; obtain ⟨bs, d2, rfl⟩ := below_grow hb2; clear hb2)
        | (go_at_call 49; (with_reducible refine (CH.out tp TF _ _ (pg_up (pgI HVr.out.i0) (by repeat' (first | (with_reducible exact Below.refl _ _) | (with_reducible assumption) | (with_reducible refine below_over ?_ _ _) | (with_reducible refine Lw.below_alloc ?_ _) | (with_reducible refine Below.drew ?_) | (with_reducible refine below_drewN ?_ _) | (with_reducible refine Below.setCell ?_ ?_ _) | go_size))) (by first | exact made_rd (by first | rfl | (simp; done)) | exact (made_rd (by first | rfl | (simp; done))).up (by repeat' (first | (with_reducible exact Below.refl _ _) | (with_reducible assumption) | (with_reducible refine below_over ?_ _ _) | (with_reducible refine Lw.below_alloc ?_ _) | (with_reducible refine Below.drew ?_) | (with_reducible refine below_drewN ?_ _) | (with_reducible refine Below.setCell ?_ ?_ _) | go_size))) (fun a ha hq => by injection ha with ha; subst ha; have := TLT.out _ hq; simp at this <;> omega)).mono ?_); rintro e w6 ⟨rfl, T6, h1, h2, h3⟩; have HV6 := Lib.hid ((HVr.out.up (by repeat' (first | (with_reducible exact Below.refl _ _) | (with_reducible assumption) | (with_reducible refine below_over ?_ _ _) | (with_reducible refine Lw.below_alloc ?_ _) | (with_reducible refine Below.drew ?_) | (with_reducible refine below_drewN ?_ _) | (with_reducible refine Below.setCell ?_ ?_ _) | go_size))).turn_0 (pgT tp T6 _ _ _) h1 h2 h3); have x0 := cell_up c0w HV6.out.below; clear h1 h2 h3 c0; have c0 := x0; clear x0))
      all_goals go_wp2
      all_goals go_ret
      all_goals exact ⟨rfl, HV6.out.below⟩
set_option maxRecDepth 100000 in
set_option maxHeartbeats 4000000 in
theorem scheck_con (p : Addr) (F : Nat → Prop) (c : Cfg) (l : Int) (L : List (List Int)) (k d : Int) (w : World) (h : SK w p F c l L) (k0 : 0 ≤ k) (k1 : k ≤ 18446744073709551615) (d0 : -9223372036854775808 ≤ d) (d1 : d ≤ 9223372036854775807) (hk : k < keys c l) (hm : c.md = 2) :
    Calls Tryz.prog 10 #[.pointer (some p), .int .u64 k, .int .i64 d] w fun e w' => e = .returned (.int .i64 (rsCode (rws c) (wds c) L (cols c l k) d)) ∧ Below w.heap.size w w' := by
  obtain ⟨i0, hi, hi0, hi1, hi2⟩ := info_parts int_info
  have HS := Lib.hid h
  have hd := h.dims
  have hme := cols_meet k0 hk
  obtain ⟨hr, hok, hl0, hl1, b, gp, G, rfl, hb, hg, hGb, rfl⟩ := h
  have hbl := size_of_heap hb
  have c0w := grd_cell hb 0 (v := .pointer (some gp)) rfl
  have CY := Lib.hid (scolumns_yes _ _ c l L k w HS.out k0 k1 hk)
  have WY : Hid (∀ w', Below w.heap.size w w' → Calls Tryz.prog 27 #[.pointer (some ⟨b, 0, none⟩)] w' fun e w2 => e = .returned (.agg #[.func (.func 46) #[] #[], .func (.func 47) #[] #[], .bool false]) ∧ Below w'.heap.size w' w2) := Lib.hid (fun w' hb2 => way_con _ _ c l L w' (HS.out.up hb2) hm)
  have hcl : (cols c l k).length = rws c := hme.2.1
  have hrw := rws_bd hr
  have RW := Lib.hid (fun w' hd => rows_any gp G (rws c) (wds c) L w' hd)
  have NW := Lib.hid (fun w' => new_any ((rws c : Nat) : Int) 1 w' (by omega) (by omega) (by omega) (by omega))
  have e1 : cl ((rws c : Nat) : Int) 8 = rws c := by rw [cl_of (by omega) (by omega)]; omega
  have e2 : cl 1 128 = 1 := by rw [cl_of (by omega) (by omega)]; rfl
  rw [e1, e2, ← trial_zero L (cols c l k)] at NW
  have AT := Lib.hid (fun (r v : Int) w' hd h0 h1 h2 h3 => at_any gp G (rws c) (wds c) L r v w' hd h0 h1 h2 h3)
  have NA := Lib.hid (fun r v (hv : (cols c l k)[r]? = some v) => named_at hd hme hv)
  have NB := Lib.hid (fun r x (hr2 : r < rws c) (hx : (named L (cols c l k))[r]? = some x) => trial_put (m := rws c) hr2 hx)
  have hin := cols_in c l k
  have HIN := Lib.hid hin
  have HAB := Lib.hid (fun r v => at2_in64 hd (r := r) (c := v))
  have CH := Lib.hid (fun tp TF A w' hp hrd hap => raise_any tp TF (rws c) 1 (trialL L (cols c l k) (rws c) (rws c)) (some A) (rws c) (rws c) (List.replicate (rws c) 0) d w' hp hrd hap (by simp) (by omega) (in64_zero _) d0 d1)
  rw [trial_rs hd hme] at CH
  obtain ⟨V, hV⟩ : ∃ V, rsCode (rws c) (wds c) L (cols c l k) d = V := ⟨_, rfl⟩
  rw [hV] at CH ⊢
  have HG := Lib.hid hg
  obtain ⟨m, hmm⟩ : ∃ m, rws c = m := ⟨_, rfl⟩
  rw [hmm] at CY RW NW NB CH hrw hcl HG AT
  obtain ⟨cs, hcs⟩ : ∃ cs, cols c l k = cs := ⟨_, rfl⟩
  rw [hcs] at CY NW NA NB CH hcl HIN
  have hm8 : 1 ≤ m ∧ m ≤ 8 := ⟨hrw.1, hrw.2.1⟩
  have HCL := Lib.hid hcl
  have hmk : ∀ w, (Instr.makeSlice 58 (.int .i64 (m : Int)) (.int .i64 (m : Int))).run Tryz.prog w = .ok (.slice (some ⟨w.heap.size, 0, none⟩) m m) (w.alloc (.cells (madeCells #[.int .i64 0] m) 3)) := by
    intro w
    have h := run_make (P := Tryz.prog) w 58 3 i0 (.int .i64 0) ints_u hi hi0 .i64 .i64 m m (by omega) (Int.le_refl _) (by rw [hi2]; omega) (by omega)
    rw [hi1] at h
    simpa [Value.cells] using h
  have HMK := Lib.hid hmk
  have hfd : ∀ w : World, (Instr.field 64 (.agg #[.func (.func 46) #[] #[], .func (.func 47) #[] #[], .bool false]) 0).run Tryz.prog w = .ok (.func (.func 46) #[] #[]) w := fun _ => by kernel_rfl
  have HFD := Lib.hid hfd
  clear hb hg hcl hrw hV hm hk hd hme hin hmm hcs e1 e2 hi hi0 hi1 hi2 hmk hfd
  go_enter Tryz.func10, Tryz.ntmps10
  go_wp2_with (first
    | (go_at_call 26; (with_reducible refine (CY.out).mono ?_); rintro e w1 ⟨g, rfl, hm1, hg1, hb1⟩; have HV1 := Lib.hid ((Have.nil w).push (midT g cs) hb1 hm1 (fun k hk => by subst hk; exact hg1)); clear hm1 hg1 hb1; have c0 := cell_up c0w HV1.out.below)
    | (go_at_call 32; (with_reducible refine (RW.out _ (pg_up HG.out HV1.out.below)).mono ?_); rintro e w2 ⟨rfl, hb⟩; have HV2 := Lib.hid (HV1.out.up hb); clear hb c0)
    | (go_at_call 24; (with_reducible refine (NW.out _).mono ?_); rintro e w3 ⟨tp, TF0, rfl, h1, h2, hb⟩; have HV3 := Lib.hid (HV2.out.push (pgT tp TF0 m 1 (trialL L cs m 0)) hb h1 h2); clear h1 h2 hb))
  go_loopw [29] (fun iv wr => ∃ (r : Nat) (TF : Nat → Prop), r ≤ m ∧ iv = .int .i64 r ∧ Have w wr [pgT tp TF m 1 (trialL L cs m r), midT g cs]) (fun iv _ => m - (intOf iv).toNat)
  case atStart => exact ⟨0, TF0, Nat.zero_le _, rfl, HV3.out⟩
  case round =>
    obtain ⟨r, TF, hr, rfl, hv⟩ := hrel
    have HVr := Lib.hid hv
    clear hv
    have c0 := cell_up c0w HVr.out.below
    by_cases hrm : r < m
    · obtain ⟨v, hv1⟩ : ∃ v, cs[r]? = some v := ⟨_, List.getElem?_eq_getElem (by rw [HCL.out]; exact hrm)⟩
      have hcv := (midI HVr.out.i1).cell hv1
      have hvb := HIN.out v (List.mem_of_getElem? hv1)
      have hna := NA.out r v hv1
      have hab := HAB.out (r : Int) v
      obtain ⟨x, hx⟩ : ∃ x, at2 L (r : Int) v = x := ⟨_, rfl⟩
      rw [hx] at hna hab
      have hnb := NB.out r x hrm hna
      have CA := Lib.hid (fun w' hb => AT.out (r : Int) v w' (pg_up HG.out hb) (by omega) (by omega) hvb.1 hvb.2)
      rw [hx] at CA
      have CPT := Lib.hid (fun w' hp => put_any tp TF m 1 (trialL L cs m r) (r : Int) 0 x w' hp (by omega) (by omega) (by omega) (by omega) hab.1 hab.2)
      rw [hnb] at CPT
      obtain ⟨bb, hbb⟩ : ∃ bb, in2 (trialL L cs m r) (r : Int) 0 = bb := ⟨_, rfl⟩
      rw [hbb] at CPT
      obtain ⟨ga, hga⟩ : ∃ ga : Addr, (⟨g, 0, none⟩ : Addr) = ga := ⟨_, rfl⟩
      rw [← Ord.add_at, hga] at hcv
      rw [hga]
      have hrm2 : (r : Int) < (m : Int) := by omega
      clear hx hna hnb hab hvb hv1 hbb
      go_wp2_with (first
        | (go_at_call 34; (with_reducible refine (CA.out _ (below_call HVr.out.below (by repeat' (first | (with_reducible exact Below.refl _ _) | (with_reducible assumption) | (with_reducible refine below_over ?_ _ _) | (with_reducible refine Lw.below_alloc ?_ _) | (with_reducible refine Below.drew ?_) | (with_reducible refine below_drewN ?_ _) | (with_reducible refine Below.setCell ?_ ?_ _) | go_size)) (Nat.le_refl _))).mono ?_); rintro e w5 ⟨rfl, hb⟩; have HV5 := Lib.hid (HVr.out.up hb); clear hb)
        | (go_at_call 33; (with_reducible refine (CPT.out _ (pgI HV5.out.i0)).mono ?_); rintro e w6 ⟨rfl, T6, h1, h2, h3⟩; have HV6 := Lib.hid (HV5.out.turn_0 (pgT tp T6 m 1 (trialL L cs m (r + 1))) h1 h2 h3); clear h1 h2 h3))
      go_roundw
      case rel => exact ⟨r + 1, T6, by omega, by go_num, HV6.out⟩
      case measure => simp [intOf]; omega
    · have e : r = m := by omega
      subst e
      have hlt3 : ¬ (r : Int) < (r : Int) := by omega
      have TLT := Lib.hid (fun q (hq : TF q) => (pgT tp TF _ _ _).lt wr HVr.out.i0 q hq)
      have hmk := HMK.out
      have hfd := HFD.out
      clear hrm
      go_upto_region 10 with fail
      go_region_held3 (fun w' => w'.cell? ⟨b, 0, none⟩ = some (.pointer (some gp))) (first | (with_reducible assumption) | (with_reducible refine cell_up c0 ?_ <;> (repeat' (first | (with_reducible exact Below.refl _ _) | (with_reducible assumption) | (with_reducible refine below_over ?_ _ _) | (with_reducible refine Lw.below_alloc ?_ _) | (with_reducible refine Below.drew ?_) | (with_reducible refine below_drewN ?_ _) | (with_reducible refine Below.setCell ?_ ?_ _) | go_size)))) (first
        | (go_at_call 27; (with_reducible refine (WY.out _ (below_call HVr.out.below (by repeat' (first | (with_reducible exact Below.refl _ _) | (with_reducible assumption) | (with_reducible refine below_over ?_ _ _) | (with_reducible refine Lw.below_alloc ?_ _) | (with_reducible refine Below.drew ?_) | (with_reducible refine below_drewN ?_ _) | (with_reducible refine Below.setCell ?_ ?_ _) | go_size)) (Nat.le_refl _))).mono ?_); rintro e w' ⟨rfl, hb2⟩; obtain ⟨bs, d2, rfl⟩ := below_grow hb2; clear hb2)
        | (go_at_call 46; (with_reducible refine (CH.out tp TF _ _ (pg_up (pgI HVr.out.i0) (by repeat' (first | (with_reducible exact Below.refl _ _) | (with_reducible assumption) | (with_reducible refine below_over ?_ _ _) | (with_reducible refine Lw.below_alloc ?_ _) | (with_reducible refine Below.drew ?_) | (with_reducible refine below_drewN ?_ _) | (with_reducible refine Below.setCell ?_ ?_ _) | go_size))) (by first | exact made_rd (by first | rfl | (simp; done)) | exact (made_rd (by first | rfl | (simp; done))).up (by repeat' (first | (with_reducible exact Below.refl _ _) | (with_reducible assumption) | (with_reducible refine below_over ?_ _ _) | (with_reducible refine Lw.below_alloc ?_ _) | (with_reducible refine Below.drew ?_) | (with_reducible refine below_drewN ?_ _) | (with_reducible refine Below.setCell ?_ ?_ _) | go_size))) (fun a ha hq => by injection ha with ha; subst ha; have := TLT.out _ hq; simp at this <;> omega)).mono ?_); rintro e w6 ⟨rfl, T6, h1, h2, h3⟩; have HV6 := Lib.hid ((HVr.out.up (by repeat' (first | (with_reducible exact Below.refl _ _) | (with_reducible assumption) | (with_reducible refine below_over ?_ _ _) | (with_reducible refine Lw.below_alloc ?_ _) | (with_reducible refine Below.drew ?_) | (with_reducible refine below_drewN ?_ _) | (with_reducible refine Below.setCell ?_ ?_ _) | go_size))).turn_0 (pgT tp T6 _ _ _) h1 h2 h3); have x0 := cell_up c0w HV6.out.below; clear h1 h2 h3 c0; have c0 := x0; clear x0))
      all_goals go_wp2
      all_goals go_ret
      all_goals exact ⟨rfl, HV6.out.below⟩
set_option maxRecDepth 100000 in
set_option maxHeartbeats 4000000 in
theorem scheck_med (p : Addr) (F : Nat → Prop) (c : Cfg) (l : Int) (L : List (List Int)) (k d : Int) (w : World) (h : SK w p F c l L) (k0 : 0 ≤ k) (k1 : k ≤ 18446744073709551615) (d0 : -9223372036854775808 ≤ d) (d1 : d ≤ 9223372036854775807) (hk : k < keys c l) (hm : c.md = 3) :
    Calls Tryz.prog 10 #[.pointer (some p), .int .u64 k, .int .i64 d] w fun e w' => e = .returned (.int .i64 (chCode (rws c) (wds c) L (cols c l k) d)) ∧ Below w.heap.size w w' := by
  obtain ⟨i0, hi, hi0, hi1, hi2⟩ := info_parts int_info
  have HS := Lib.hid h
  have hd := h.dims
  have hme := cols_meet k0 hk
  obtain ⟨hr, hok, hl0, hl1, b, gp, G, rfl, hb, hg, hGb, rfl⟩ := h
  have hbl := size_of_heap hb
  have c0w := grd_cell hb 0 (v := .pointer (some gp)) rfl
  have CY := Lib.hid (scolumns_yes _ _ c l L k w HS.out k0 k1 hk)
  have WY : Hid (∀ w', Below w.heap.size w w' → Calls Tryz.prog 27 #[.pointer (some ⟨b, 0, none⟩)] w' fun e w2 => e = .returned (.agg #[.func (.func 49) #[] #[], .func (.func 48) #[] #[], .bool true]) ∧ Below w'.heap.size w' w2) := Lib.hid (fun w' hb2 => way_med _ _ c l L w' (HS.out.up hb2) hm)
  have hcl : (cols c l k).length = rws c := hme.2.1
  have hrw := rws_bd hr
  have RW := Lib.hid (fun w' hd => rows_any gp G (rws c) (wds c) L w' hd)
  have NW := Lib.hid (fun w' => new_any ((rws c : Nat) : Int) 1 w' (by omega) (by omega) (by omega) (by omega))
  have e1 : cl ((rws c : Nat) : Int) 8 = rws c := by rw [cl_of (by omega) (by omega)]; omega
  have e2 : cl 1 128 = 1 := by rw [cl_of (by omega) (by omega)]; rfl
  rw [e1, e2, ← trial_zero L (cols c l k)] at NW
  have AT := Lib.hid (fun (r v : Int) w' hd h0 h1 h2 h3 => at_any gp G (rws c) (wds c) L r v w' hd h0 h1 h2 h3)
  have NA := Lib.hid (fun r v (hv : (cols c l k)[r]? = some v) => named_at hd hme hv)
  have NB := Lib.hid (fun r x (hr2 : r < rws c) (hx : (named L (cols c l k))[r]? = some x) => trial_put (m := rws c) hr2 hx)
  have hin := cols_in c l k
  have HIN := Lib.hid hin
  have HAB := Lib.hid (fun r v => at2_in64 hd (r := r) (c := v))
  have CH := Lib.hid (fun tp TF A w' hp hrd hap => change_any tp TF (rws c) 1 (trialL L (cols c l k) (rws c) (rws c)) (some A) (rws c) (rws c) (List.replicate (rws c) 0) d w' hp hrd hap (by simp) (by omega) (in64_zero _) d0 d1)
  rw [trial_ch hd hme] at CH
  obtain ⟨V, hV⟩ : ∃ V, chCode (rws c) (wds c) L (cols c l k) d = V := ⟨_, rfl⟩
  rw [hV] at CH ⊢
  have HG := Lib.hid hg
  obtain ⟨m, hmm⟩ : ∃ m, rws c = m := ⟨_, rfl⟩
  rw [hmm] at CY RW NW NB CH hrw hcl HG AT
  obtain ⟨cs, hcs⟩ : ∃ cs, cols c l k = cs := ⟨_, rfl⟩
  rw [hcs] at CY NW NA NB CH hcl HIN
  have hm8 : 1 ≤ m ∧ m ≤ 8 := ⟨hrw.1, hrw.2.1⟩
  have HCL := Lib.hid hcl
  have hmk : ∀ w, (Instr.makeSlice 58 (.int .i64 (m : Int)) (.int .i64 (m : Int))).run Tryz.prog w = .ok (.slice (some ⟨w.heap.size, 0, none⟩) m m) (w.alloc (.cells (madeCells #[.int .i64 0] m) 3)) := by
    intro w
    have h := run_make (P := Tryz.prog) w 58 3 i0 (.int .i64 0) ints_u hi hi0 .i64 .i64 m m (by omega) (Int.le_refl _) (by rw [hi2]; omega) (by omega)
    rw [hi1] at h
    simpa [Value.cells] using h
  have HMK := Lib.hid hmk
  have hfd : ∀ w : World, (Instr.field 64 (.agg #[.func (.func 49) #[] #[], .func (.func 48) #[] #[], .bool true]) 0).run Tryz.prog w = .ok (.func (.func 49) #[] #[]) w := fun _ => by kernel_rfl
  have HFD := Lib.hid hfd
  clear hb hg hcl hrw hV hm hk hd hme hin hmm hcs e1 e2 hi hi0 hi1 hi2 hmk hfd
  go_enter Tryz.func10, Tryz.ntmps10
  go_wp2_with (first
    | (go_at_call 26; (with_reducible refine (CY.out).mono ?_); rintro e w1 ⟨g, rfl, hm1, hg1, hb1⟩; have HV1 := Lib.hid ((Have.nil w).push (midT g cs) hb1 hm1 (fun k hk => by subst hk; exact hg1)); clear hm1 hg1 hb1; have c0 := cell_up c0w HV1.out.below)
    | (go_at_call 32; (with_reducible refine (RW.out _ (pg_up HG.out HV1.out.below)).mono ?_); rintro e w2 ⟨rfl, hb⟩; have HV2 := Lib.hid (HV1.out.up hb); clear hb c0)
    | (go_at_call 24; (with_reducible refine (NW.out _).mono ?_); rintro e w3 ⟨tp, TF0, rfl, h1, h2, hb⟩; have HV3 := Lib.hid (HV2.out.push (pgT tp TF0 m 1 (trialL L cs m 0)) hb h1 h2); clear h1 h2 hb))
  go_loopw [29] (fun iv wr => ∃ (r : Nat) (TF : Nat → Prop), r ≤ m ∧ iv = .int .i64 r ∧ Have w wr [pgT tp TF m 1 (trialL L cs m r), midT g cs]) (fun iv _ => m - (intOf iv).toNat)
  case atStart => exact ⟨0, TF0, Nat.zero_le _, rfl, HV3.out⟩
  case round =>
    obtain ⟨r, TF, hr, rfl, hv⟩ := hrel
    have HVr := Lib.hid hv
    clear hv
    have c0 := cell_up c0w HVr.out.below
    by_cases hrm : r < m
    · obtain ⟨v, hv1⟩ : ∃ v, cs[r]? = some v := ⟨_, List.getElem?_eq_getElem (by rw [HCL.out]; exact hrm)⟩
      have hcv := (midI HVr.out.i1).cell hv1
      have hvb := HIN.out v (List.mem_of_getElem? hv1)
      have hna := NA.out r v hv1
      have hab := HAB.out (r : Int) v
      obtain ⟨x, hx⟩ : ∃ x, at2 L (r : Int) v = x := ⟨_, rfl⟩
      rw [hx] at hna hab
      have hnb := NB.out r x hrm hna
      have CA := Lib.hid (fun w' hb => AT.out (r : Int) v w' (pg_up HG.out hb) (by omega) (by omega) hvb.1 hvb.2)
      rw [hx] at CA
      have CPT := Lib.hid (fun w' hp => put_any tp TF m 1 (trialL L cs m r) (r : Int) 0 x w' hp (by omega) (by omega) (by omega) (by omega) hab.1 hab.2)
      rw [hnb] at CPT
      obtain ⟨bb, hbb⟩ : ∃ bb, in2 (trialL L cs m r) (r : Int) 0 = bb := ⟨_, rfl⟩
      rw [hbb] at CPT
      obtain ⟨ga, hga⟩ : ∃ ga : Addr, (⟨g, 0, none⟩ : Addr) = ga := ⟨_, rfl⟩
      rw [← Ord.add_at, hga] at hcv
      rw [hga]
      have hrm2 : (r : Int) < (m : Int) := by omega
      clear hx hna hnb hab hvb hv1 hbb
      go_wp2_with (first
        | (go_at_call 34; (with_reducible refine (CA.out _ (below_call HVr.out.below (by repeat' (first | (with_reducible exact Below.refl _ _) | (with_reducible assumption) | (with_reducible refine below_over ?_ _ _) | (with_reducible refine Lw.below_alloc ?_ _) | (with_reducible refine Below.drew ?_) | (with_reducible refine below_drewN ?_ _) | (with_reducible refine Below.setCell ?_ ?_ _) | go_size)) (Nat.le_refl _))).mono ?_); rintro e w5 ⟨rfl, hb⟩; have HV5 := Lib.hid (HVr.out.up hb); clear hb)
        | (go_at_call 33; (with_reducible refine (CPT.out _ (pgI HV5.out.i0)).mono ?_); rintro e w6 ⟨rfl, T6, h1, h2, h3⟩; have HV6 := Lib.hid (HV5.out.turn_0 (pgT tp T6 m 1 (trialL L cs m (r + 1))) h1 h2 h3); clear h1 h2 h3))
      go_roundw
      case rel => exact ⟨r + 1, T6, by omega, by go_num, HV6.out⟩
      case measure => simp [intOf]; omega
    · have e : r = m := by omega
      subst e
      have hlt3 : ¬ (r : Int) < (r : Int) := by omega
      have TLT := Lib.hid (fun q (hq : TF q) => (pgT tp TF _ _ _).lt wr HVr.out.i0 q hq)
      have hmk := HMK.out
      have hfd := HFD.out
      clear hrm
      go_upto_region 10 with fail
      go_region_held3 (fun w' => w'.cell? ⟨b, 0, none⟩ = some (.pointer (some gp))) (first | (with_reducible assumption) | (with_reducible refine cell_up c0 ?_ <;> (repeat' (first | (with_reducible exact Below.refl _ _) | (with_reducible assumption) | (with_reducible refine below_over ?_ _ _) | (with_reducible refine Lw.below_alloc ?_ _) | (with_reducible refine Below.drew ?_) | (with_reducible refine below_drewN ?_ _) | (with_reducible refine Below.setCell ?_ ?_ _) | go_size)))) (first
        | (go_at_call 27; (with_reducible refine (WY.out _ (below_call HVr.out.below (by repeat' (first | (with_reducible exact Below.refl _ _) | (with_reducible assumption) | (with_reducible refine below_over ?_ _ _) | (with_reducible refine Lw.below_alloc ?_ _) | (with_reducible refine Below.drew ?_) | (with_reducible refine below_drewN ?_ _) | (with_reducible refine Below.setCell ?_ ?_ _) | go_size)) (Nat.le_refl _))).mono ?_); rintro e w' ⟨rfl, hb2⟩; obtain ⟨bs, d2, rfl⟩ := below_grow hb2; clear hb2)
        | (go_at_call 49; (with_reducible refine (CH.out tp TF _ _ (pg_up (pgI HVr.out.i0) (by repeat' (first | (with_reducible exact Below.refl _ _) | (with_reducible assumption) | (with_reducible refine below_over ?_ _ _) | (with_reducible refine Lw.below_alloc ?_ _) | (with_reducible refine Below.drew ?_) | (with_reducible refine below_drewN ?_ _) | (with_reducible refine Below.setCell ?_ ?_ _) | go_size))) (by first | exact made_rd (by first | rfl | (simp; done)) | exact (made_rd (by first | rfl | (simp; done))).up (by repeat' (first | (with_reducible exact Below.refl _ _) | (with_reducible assumption) | (with_reducible refine below_over ?_ _ _) | (with_reducible refine Lw.below_alloc ?_ _) | (with_reducible refine Below.drew ?_) | (with_reducible refine below_drewN ?_ _) | (with_reducible refine Below.setCell ?_ ?_ _) | go_size))) (fun a ha hq => by injection ha with ha; subst ha; have := TLT.out _ hq; simp at this <;> omega)).mono ?_); rintro e w6 ⟨rfl, T6, h1, h2, h3⟩; have HV6 := Lib.hid ((HVr.out.up (by repeat' (first | (with_reducible exact Below.refl _ _) | (with_reducible assumption) | (with_reducible refine below_over ?_ _ _) | (with_reducible refine Lw.below_alloc ?_ _) | (with_reducible refine Below.drew ?_) | (with_reducible refine below_drewN ?_ _) | (with_reducible refine Below.setCell ?_ ?_ _) | go_size))).turn_0 (pgT tp T6 _ _ _) h1 h2 h3); have x0 := cell_up c0w HV6.out.below; clear h1 h2 h3 c0; have c0 := x0; clear x0))
      all_goals go_wp2
      all_goals go_ret
      all_goals exact ⟨rfl, HV6.out.below⟩
/-- Check tells what Update would answer. -/
theorem scheck_any (p : Addr) (F : Nat → Prop) (c : Cfg) (l : Int) (L : List (List Int)) (k d : Int) (w : World) (h : SK w p F c l L) (k0 : 0 ≤ k) (k1 : k ≤ 18446744073709551615) (d0 : -9223372036854775808 ≤ d) (d1 : d ≤ 9223372036854775807) :
    Calls Tryz.prog 10 #[.pointer (some p), .int .u64 k, .int .i64 d] w fun e w' => e = .returned (.int .i64 (upCode c l L k d)) ∧ Below w.heap.size w w' := by
  unfold upCode
  by_cases hk : keys c l ≤ k
  · rw [if_pos hk]
    exact scheck_no p F c l L k d w h k0 k1 hk
  rw [if_neg hk]
  have hr := h.1
  have h3 : c.md = 1 ∨ c.md = 2 ∨ c.md = 3 := by have := hr.2.2.2.2.2.2; omega
  rcases h3 with h3 | h3 | h3
  · rw [if_neg (by omega)]; exact scheck_lin p F c l L k d w h k0 k1 d0 d1 (by omega) h3
  · rw [if_pos h3]; exact scheck_con p F c l L k d w h k0 k1 d0 d1 (by omega) h3
  · rw [if_neg (by omega)]; exact scheck_med p F c l L k d w h k0 k1 d0 d1 (by omega) h3
end Go.Proofs.YthecgkgnngpikaaGreat.Sk
/- The document's Columns: its row lies in a block of its own. Printed by wip/gen/skref.py. -/
namespace Go.Proofs.YthecgkgnngpikaaGreat.Shp
open Go Go.RowKit Lw
set_option linter.unusedVariables false
set_option linter.unusedSimpArgs false
set_option maxRecDepth 100000 in
set_option maxHeartbeats 2000000 in
theorem rcols_own (c : Cfg) (l k : Int) (w : World) (h : c.Ok) (l0 : -9223372036854775808 ≤ l) (l1 : l ≤ 9223372036854775807) (k0 : 0 ≤ k) (k1 : k ≤ 18446744073709551615) :
    Calls Tryz.prog 29 #[.agg #[.int .i64 c.bt, .int .i64 c.rw, .int .i64 c.wd, .int .i64 c.md, .int .u64 c.sd], .int .i64 l, .int .u64 k] w fun e w' => ∃ (A : Addr) (cap : Nat), e = .returned (.slice (some A) (cols c l k).length cap) ∧ Rd .i64 w' (some A) (cols c l k) ∧ (cols c l k).length ≤ cap ∧ cap ≤ maxLen ∧ w.heap.size ≤ A.block ∧ Below w.heap.size w w' := by
  obtain ⟨i0, hi, hi0, hi1, hi2⟩ := info_parts int_info
  have HO := Lib.hid h
  obtain ⟨b0, b1, r0, r1, w0, w1, m0, m1, s0, s1⟩ := h
  have hkl := keys_bd c l
  have hpos := keys_pos (c := c) (l := l)
  have HY := Lib.hid (@cols_yes c l k)
  have HNo := Lib.hid (@cols_no c l k)
  obtain ⟨K, hK⟩ : ∃ K, keys c l = K := ⟨_, rfl⟩
  rw [hK] at hkl hpos HY HNo
  by_cases h1 : k < K
  · obtain ⟨hr, hl0, hl1⟩ := hpos.1 (by omega)
    have hb59 := hr.2.1
    have hr1 := hr.2.2.1
    have hr2 := hr.2.2.2.1
    have HC := Lib.hid (HY.out h1)
    obtain ⟨R, hR⟩ : ∃ R : Nat, c.rw = R := ⟨c.rw.toNat, by omega⟩
    have HR : Hid (c.rw.toNat = R) := Lib.hid (by omega)
    have hR8 : R ≤ 8 := by omega
    have HRW := Lib.hid hR
    clear hpos hr hR
    go_enter Tryz.func29, Tryz.ntmps29
    go_wp2_with (go_at_call 28; (with_reducible refine (rkeys_any c l _ HO.out l0 l1).mono ?_); rintro e w' ⟨he, hb⟩; rw [hK] at he; subst he; obtain ⟨bs, d, rfl⟩ := below_grow hb; clear hb)
    obtain ⟨wK, hw1⟩ : ∃ wK : World, wK = grow ((w.alloc (.cells #[.int .i64 c.bt, .int .i64 c.rw, .int .i64 c.wd, .int .i64 c.md, .int .u64 c.sd] 24)).alloc (.cells #[] 3)) bs d := ⟨_, rfl⟩
    have hwb : Below w.heap.size w wK := by rw [hw1]; repeat' (first | (with_reducible exact Below.refl _ _) | (with_reducible assumption) | (with_reducible refine below_over ?_ _ _) | (with_reducible refine Lw.below_alloc ?_ _) | (with_reducible refine Below.drew ?_) | (with_reducible refine below_drewN ?_ _) | (with_reducible refine Below.setCell ?_ ?_ _) | go_size)
    have hwc : wK.heap[w.heap.size]? = some (.cells #[.int .i64 c.bt, .int .i64 c.rw, .int .i64 c.wd, .int .i64 c.md, .int .u64 c.sd] 24 (0, 0)) := by
      rw [hw1, (grow_below _ bs d).block _ (by simp), (Lw.below_alloc (Below.refl (w.alloc (.cells #[.int .i64 c.bt, .int .i64 c.rw, .int .i64 c.wd, .int .i64 c.md, .int .u64 c.sd] 24)).heap.size _) _).block _ (by simp)]
      exact heap_alloc_new w _
    have hwo : wK.ownsRow (w.heap.size + 1) 3 1 (.slice (some ⟨w.heap.size + 1, 0, none⟩) 0 0) 0 (([] : List Int).map (Value.int .i64)) := by
      rw [hw1]
      have h := own_empty (w.alloc (.cells #[.int .i64 c.bt, .int .i64 c.rw, .int .i64 c.wd, .int .i64 c.md, .int .u64 c.sd] 24)) 3 1 (w.heap.size + 1) (by simp)
      have e : (w.alloc (.cells #[.int .i64 c.bt, .int .i64 c.rw, .int .i64 c.wd, .int .i64 c.md, .int .u64 c.sd] 24)).heap.size = w.heap.size + 1 := by simp
      rw [e] at h
      exact (Kept.of_below (F := fun _ => False) (grow_below _ bs d)).own h (fun _ _ h => h)
    rw [← hw1]
    clear hw1
    have HW := Lib.hid hwb
    have HX := Lib.hid hwc
    have HY2 := Lib.hid hwo
    clear hwb hwc hwo
    go_loopw [7, 8] (fun v i wr => ∃ (r g cp : Nat), r ≤ R ∧ i = .int .i64 r ∧ v = .slice (some ⟨g, 0, none⟩) r cp ∧ wr.ownsRow (w.heap.size + 1) 3 1 v r (((List.range r).map (col c l k)).map (Value.int .i64)) ∧ wr.heap[w.heap.size]? = some (.cells #[.int .i64 c.bt, .int .i64 c.rw, .int .i64 c.wd, .int .i64 c.md, .int .u64 c.sd] 24 (0, 0)) ∧ Below w.heap.size w wr) (fun _ i _ => R - (intOf i).toNat)
    case atStart => exact ⟨0, _, 0, Nat.zero_le _, rfl, rfl, HY2.out, HX.out, HW.out⟩
    case round =>
      obtain ⟨r, g, cp, hrR, rfl, rfl, hown, hbox, hbel⟩ := hrel
      have hwl : w.heap.size < wr.heap.size := by
        rcases Nat.lt_or_ge w.heap.size wr.heap.size with h | h
        · exact h
        · rw [Array.getElem?_eq_none h] at hbox; cases hbox
      have x1 : wr.cell? ⟨w.heap.size, 1, none⟩ = some (.int .i64 c.rw) := by simp [World.cell?, hbox]
      have x2 : wr.cell? ⟨w.heap.size, 2, none⟩ = some (.int .i64 c.wd) := by simp [World.cell?, hbox]
      have x4 : wr.cell? ⟨w.heap.size, 4, none⟩ = some (.int .u64 c.sd) := by simp [World.cell?, hbox]
      have HOW := Lib.hid hown
      have HBX := Lib.hid hbox
      have HBL := Lib.hid hbel
      clear hown hbox hbel
      rw [HRW.out] at x1
      by_cases hlt : r < R
      · obtain ⟨pa, hpa⟩ : ∃ pa, Sed.pairA c.sd l r = pa := ⟨_, rfl⟩
        obtain ⟨pb, hpb⟩ : ∃ pb, Sed.pairB c.sd l r = pb := ⟨_, rfl⟩
        have ba := Sed.pairA_bd c.sd l r
        have bb := Sed.pairB_bd c.sd l r
        have hok : Sed.okRow l r := ⟨hl0, by have := b1; omega, by omega, by omega⟩
        have ba := ba hok
        have bb := bb hok
        rw [hpa] at ba
        rw [hpb] at bb
        obtain ⟨X, hX⟩ : ∃ X, Hsh.buck pa pb k c.wd = X := ⟨_, rfl⟩
        have hcol : col c l k r = X := by unfold col; rw [hpa, hpb, hX]
        have HN := Lib.hid (range_next (col c l k) r)
        rw [hcol] at HN
        clear hcol hok
        go_wp2_with (first
          | (go_at_call 51; (with_reducible refine (Sed.rpair_any c.sd l r _ l0 l1 (by omega) (by omega)).mono ?_); rintro e w' ⟨he, rfl⟩; rw [hpa, hpb] at he; subst he)
          | (go_at_call 52; (with_reducible refine (Hsh.rbucket_any pa pb k c.wd _ (by omega) (by omega) (by omega) (by omega) k0 k1 w0 w1).mono ?_); rintro e w' ⟨he, rfl⟩; rw [hX] at he; subst he)
          | (at_builtin; (refine app_one .i64 rfl _ _ 58 rfl (w.heap.size + 1) 3 i0 8 ints_u hi hi0 hi1 hi2 (.slice (some ⟨g, 0, none⟩) r cp) r ((List.range r).map (col c l k)) rfl (HOW.out.alloc _) X wr.heap.size rfl (cell_one_new _ _ _) (by unfold maxLen; omega) (by omega) (by simp; omega) ?_); intro v1 w2 own1 grow1 oth1; obtain ⟨gg, cc, rfl, hgg, hgl⟩ := own1.form (by omega)))
        go_roundw
        case rel =>
          have hge := own_ge HOW.out
          refine ⟨r + 1, gg, cc, by omega, by go_num, rfl, by rw [HN.out]; exact own1, ?_, ?_⟩
          · refine ((Kept.refl (fun q => q = g) _).grown grow1 (fun q hq => .inl (by simpa [Value.ownBlock] using hq.symm))).heap (o := _) ?_ (by have := hge g rfl; omega)
            rw [(Lw.below_alloc (Below.refl wr.heap.size wr) _).block _ hwl]
            exact HBX.out
          · exact app_below3 (Lw.below_alloc HBL.out _) grow1 (fun q hq => by have := hge q hq; omega)
        case measure => simp [intOf]; omega
      · have e : r = R := by omega
        subst e
        obtain ⟨A, cp2, hv, hrd, h2, h3, h4⟩ := own_rd HOW.out
        injection hv with hv1 hv2 hv3
        subst hv1 hv3
        have hlen : ((List.range r).map (col c l k)).length = r := by simp
        have HCC : Hid (cols c l k = (List.range r).map (col c l k)) := Lib.hid (by rw [HC.out, HR.out])
        have HRD := Lib.hid hrd
        clear hrd h4
        go_wp2
        go_ret
        exact ⟨⟨g, 0, none⟩, cp, by rw [HCC.out, hlen]; rfl, by rw [HCC.out]; exact HRD.out, by rw [HCC.out, hlen]; exact h2, h3, by have := own_ge HOW.out g rfl; show w.heap.size ≤ g; omega, HBL.out⟩
  · have HC := Lib.hid (HNo.out h1)
    clear hpos
    go_enter Tryz.func29, Tryz.ntmps29
    go_wp2_with (go_at_call 28; (with_reducible refine (rkeys_any c l _ HO.out l0 l1).mono ?_); rintro e w' ⟨he, hb⟩; rw [hK] at he; subst he; obtain ⟨bs, d, rfl⟩ := below_grow hb; clear hb)
    all_goals go_ret
    all_goals refine ⟨⟨w.heap.size + 1, 0, none⟩, 0, by rw [HC.out]; rfl, by rw [HC.out]; exact rd_nil _ _ _, by rw [HC.out]; exact Nat.le_refl _, by decide, Nat.le_succ _, ?_⟩
    all_goals (repeat' (first | (with_reducible exact Below.refl _ _) | (with_reducible assumption) | (with_reducible refine below_over ?_ _ _) | (with_reducible refine Lw.below_alloc ?_ _) | (with_reducible refine Below.drew ?_) | (with_reducible refine below_drewN ?_ _) | (with_reducible refine Below.setCell ?_ ?_ _) | go_size))
end Go.Proofs.YthecgkgnngpikaaGreat.Shp
/- The document's sketch: a block of its config, its level and its grid; New, Update. Printed by wip/gen/skref.py. -/
namespace Go.Proofs.YthecgkgnngpikaaGreat.Sk
open Go Go.RowKit Lw Grd Lin Con Shp
set_option linter.unusedVariables false
set_option linter.unusedSimpArgs false
/-- A sketch of the document at p, in the blocks F. -/
def DS (w : World) (p : Addr) (F : Nat → Prop) (c : Cfg) (l : Int) (L : List (List Int)) : Prop :=
  IsRight c ∧ c.Ok ∧ 0 ≤ l ∧ l ≤ c.bt ∧ ∃ (b : Nat) (gp : Addr) (G : Nat → Prop), p = ⟨b, 0, none⟩ ∧ w.heap[b]? = some (.cells #[.int .i64 c.bt, .int .i64 c.rw, .int .i64 c.wd, .int .i64 c.md, .int .u64 c.sd, .int .i64 l, .pointer (some gp)] 48 (0, 0)) ∧ DG w gp G (rws c) (wds c) L ∧ ¬ G b ∧ F = (fun k => k = b ∨ G k)
theorem DS.keep {w' : World} {H : Nat → Prop} {w : World} {p : Addr} {F : Nat → Prop} {c : Cfg} {l : Int} {L : List (List Int)} (h : DS w p F c l L) (hk : Kept H w w') (hf : ∀ k, F k → ¬ H k) : DS w' p F c l L := by
  obtain ⟨hr, hok, hl0, hl1, b, gp, G, rfl, hb, hg, hGb, rfl⟩ := h
  exact ⟨hr, hok, hl0, hl1, b, gp, G, rfl, hk.heap hb (hf b (.inl rfl)), (dgT gp G _ _ L).keep w w' H hg hk (fun k h => hf k (.inr h)), hGb, rfl⟩
theorem DS.up {w' : World} {w : World} {p : Addr} {F : Nat → Prop} {c : Cfg} {l : Int} {L : List (List Int)} (h : DS w p F c l L) (hk : Below w.heap.size w w') : DS w' p F c l L := h.keep (Kept.of_below (F := fun _ => False) hk) (fun _ _ h => h)
theorem DS.lt {w : World} {p : Addr} {F : Nat → Prop} {c : Cfg} {l : Int} {L : List (List Int)} (h : DS w p F c l L) (k : Nat) (hk : F k) : k < w.heap.size := by
  obtain ⟨hr, hok, hl0, hl1, b, gp, G, rfl, hb, hg, hGb, rfl⟩ := h
  rcases hk with rfl | hk
  · exact size_of_heap hb
  · exact (dgT gp G _ _ L).lt w hg k hk
def dsT (p : Addr) (F : Nat → Prop) (c : Cfg) (l : Int) (L : List (List Int)) : Thing where
  I := fun w => DS w p F c l L
  F := F
  keep := fun w w' H h hk hf => h.keep hk hf
  lt := fun w h k hk => h.lt k hk
theorem dsI {w : World} {p : Addr} {F : Nat → Prop} {c : Cfg} {l : Int} {L : List (List Int)} (h : (dsT p F c l L).I w) : DS w p F c l L := h
theorem ds_turn {w w' : World} {b : Nat} {gp : Addr} {G G' : Nat → Prop} {c : Cfg} {l : Int} {L : List (List Int)} (hr : IsRight c) (hok : c.Ok) (hl0 : 0 ≤ l) (hl1 : l ≤ c.bt)
    (hb : w.heap[b]? = some (.cells #[.int .i64 c.bt, .int .i64 c.rw, .int .i64 c.wd, .int .i64 c.md, .int .u64 c.sd, .int .i64 l, .pointer (some gp)] 48 (0, 0))) (hGb : ¬ G b) (g' : DG w' gp G' (rws c) (wds c) L) (hk : Kept G w w') (hG : ∀ k, G' k → G k ∨ w.heap.size ≤ k) :
    ∃ F', DS w' ⟨b, 0, none⟩ F' c l L ∧ Kept (fun k => k = b ∨ G k) w w' ∧ (∀ q, F' q → (q = b ∨ G q) ∨ w.heap.size ≤ q) := by
  have hbl := size_of_heap hb
  refine ⟨_, ⟨hr, hok, hl0, hl1, b, gp, G', rfl, hk.heap hb hGb, g', fun h => ?_, rfl⟩, hk.mono (fun k _ h => .inr h), fun q hq => ?_⟩
  · rcases hG b h with h1 | h1
    · exact hGb h1
    · omega
  · rcases hq with rfl | h1
    · exact .inl (.inl rfl)
    · rcases hG q h1 with h2 | h2
      · exact .inl (.inr h2)
      · exact .inr h2
theorem dg_alloc {w : World} {p : Addr} {F : Nat → Prop} {m n : Nat} {L : List (List Int)} (h : DG w p F m n L) (o : Obj) : DG (w.alloc o) p F m n L := dg_up h (Lw.below_alloc (Below.refl _ _) o)
set_option maxRecDepth 100000 in
theorem rsnew_any (c : Cfg) (l : Int) (w : World) (h : c.Ok) (hr : IsRight c) (l0 : 0 ≤ l) (l1 : l ≤ c.bt) :
    Calls Tryz.prog 7 #[.agg #[.int .i64 c.bt, .int .i64 c.rw, .int .i64 c.wd, .int .i64 c.md, .int .u64 c.sd], .int .i64 l] w fun e w' => ∃ (p : Addr) (F : Nat → Prop), e = .returned (.pointer (some p)) ∧ DS w' p F c l (zerosL (rws c) (wds c)) ∧ (∀ k, F k → w.heap.size ≤ k) ∧ Below w.heap.size w w' := by
  have hw1 := rws_bd hr
  have hw2 := wds_bd hr
  have N := Lib.hid (fun w => dnew_any c.rw c.wd w h.r0 h.r1 h.w0 h.w1)
  have e1 : cl c.rw 8 = rws c := cl_of (by omega) (by omega)
  have e2 : cl c.wd 128 = wds c := cl_of (by omega) (by omega)
  rw [e1, e2] at N
  have HR := Lib.hid (And.intro hr (And.intro l0 l1))
  clear hr hw1 hw2 e1 e2 l0 l1
  go_enter Tryz.func7, Tryz.ntmps7
  go_upto_region 1 with fail
  obtain ⟨w1, hw1⟩ : ∃ w1, w1 = w.alloc (.cells #[.int .i64 c.bt, .int .i64 c.rw, .int .i64 c.wd, .int .i64 c.md, .int .u64 c.sd] 24) := ⟨_, rfl⟩
  have HB1 : Hid (Below w.heap.size w w1) := Lib.hid (by rw [hw1]; (repeat' (first | (with_reducible exact Below.refl _ _) | (with_reducible assumption) | (with_reducible refine below_over ?_ _ _) | (with_reducible refine Lw.below_alloc ?_ _) | (with_reducible refine Below.drew ?_) | (with_reducible refine below_drewN ?_ _) | (with_reducible refine Below.setCell ?_ ?_ _) | go_size)))
  have x0 : w1.cell? ⟨w.heap.size, 0, none⟩ = some (.int .i64 c.bt) := by rw [hw1]; simp [go_sem]
  have x1 : w1.cell? ⟨w.heap.size, 1, none⟩ = some (.int .i64 c.rw) := by rw [hw1]; simp [go_sem]
  have x2 : w1.cell? ⟨w.heap.size, 2, none⟩ = some (.int .i64 c.wd) := by rw [hw1]; simp [go_sem]
  have x3 : w1.cell? ⟨w.heap.size, 3, none⟩ = some (.int .i64 c.md) := by rw [hw1]; simp [go_sem]
  have x4 : w1.cell? ⟨w.heap.size, 4, none⟩ = some (.int .u64 c.sd) := by rw [hw1]; simp [go_sem]
  rw [← hw1]
  clear hw1
  go_region_held3 (fun w' => w'.cell? ⟨w.heap.size, 0, none⟩ = some (.int .i64 c.bt) ∧ w'.cell? ⟨w.heap.size, 1, none⟩ = some (.int .i64 c.rw) ∧ w'.cell? ⟨w.heap.size, 2, none⟩ = some (.int .i64 c.wd) ∧ w'.cell? ⟨w.heap.size, 3, none⟩ = some (.int .i64 c.md) ∧ w'.cell? ⟨w.heap.size, 4, none⟩ = some (.int .u64 c.sd)) (first | (refine ⟨?_, ?_, ?_, ?_, ?_⟩ <;> (first | (with_reducible assumption) | (with_reducible refine cell_up x0 ?_) | (with_reducible refine cell_up x1 ?_) | (with_reducible refine cell_up x2 ?_) | (with_reducible refine cell_up x3 ?_) | (with_reducible refine cell_up x4 ?_)) <;> repeat' (first | (with_reducible exact Below.refl _ _) | (with_reducible assumption) | (with_reducible refine below_over ?_ _ _) | (with_reducible refine Lw.below_alloc ?_ _) | (with_reducible refine Below.drew ?_) | (with_reducible refine below_drewN ?_ _) | (with_reducible refine Below.setCell ?_ ?_ _) | go_size))) (first
    | (go_at_call 25; (with_reducible refine (N.out _).mono ?_); rintro e w2 ⟨gp, G, rfl, hg, hG, hb2⟩; obtain ⟨bs2, d2, rfl⟩ := below_grow hb2; have HG := Lib.hid hg; have HF := Lib.hid hG; have HB2 := Lib.hid hb2; clear hg hG hb2))
  all_goals go_wp2
  all_goals go_ret
  have hgl := fun k (hk : G k) => (dgT gp G _ _ _).lt _ HG.out k hk
  rw [size_grow] at hgl
  have hn := heap_alloc_new (grow w1 bs2 d2) (.cells #[.int .i64 c.bt, .int .i64 c.rw, .int .i64 c.wd, .int .i64 c.md, .int .u64 c.sd, .int .i64 l, .pointer (some gp)] 48)
  rw [size_grow] at hn
  have hs := HB1.out.size
  have hz : w1.drew.heap.size = w1.heap.size := rfl
  rw [hz] at hgl
  refine ⟨⟨w1.heap.size + bs2.size, 0, none⟩, fun k => k = w1.heap.size + bs2.size ∨ G k, rfl, ⟨HR.out.1, h, HR.out.2.1, HR.out.2.2, _, gp, G, rfl, hn, dg_alloc HG.out _, fun hk => by have := hgl _ hk; omega, rfl⟩, fun k hk => ?_, ?_⟩
  · rcases hk with rfl | hk
    · omega
    · have := HF.out k hk; rw [hz] at this; omega
  · exact (below_call (Below.drew HB1.out) HB2.out (Nat.le_refl _)).alloc (by rw [size_grow]; omega) _
set_option maxRecDepth 100000 in
set_option maxHeartbeats 4000000 in
theorem rsupd_any (p : Addr) (F : Nat → Prop) (c : Cfg) (l : Int) (L : List (List Int)) (k d : Int) (w : World) (h : DS w p F c l L) (k0 : 0 ≤ k) (k1 : k ≤ 18446744073709551615) (d0 : -9223372036854775808 ≤ d) (d1 : d ≤ 9223372036854775807) :
    Calls Tryz.prog 12 #[.pointer (some p), .int .u64 k, .int .i64 d] w fun e w' => e = .returned (.int .i64 (upCode c l L k d)) ∧ ∃ F', DS w' p F' c l (upRes c l L k d) ∧ Kept F w w' ∧ (∀ q, F' q → F q ∨ w.heap.size ≤ q) := by
  unfold upCode upRes
  have HS := Lib.hid h
  obtain ⟨hr, hok, hl0, hl1, b, gp, G, rfl, hb, hg, hGb, rfl⟩ := h
  have hbl := size_of_heap hb
  have c0 := grd_cell hb 0 (v := .int .i64 c.bt) rfl
  have c1 := grd_cell hb 1 (v := .int .i64 c.rw) rfl
  have c2 := grd_cell hb 2 (v := .int .i64 c.wd) rfl
  have c3 := grd_cell hb 3 (v := .int .i64 c.md) rfl
  have c4 := grd_cell hb 4 (v := .int .u64 c.sd) rfl
  have c5 := grd_cell hb 5 (v := .int .i64 l) rfl
  have c6 := grd_cell hb 6 (v := .pointer (some gp)) rfl
  have hbt := hr.2.1
  have CK := Lib.hid (fun w => rkeys_any c l w hok (by omega) (by omega))
  have CC := Lib.hid (fun w => rcols_own c l k w hok (by omega) (by omega) k0 k1)
  have HT : Hid (∀ w' G' L', DG w' gp G' (rws c) (wds c) L' → Kept G w w' → (∀ k, G' k → G k ∨ w.heap.size ≤ k) → ∃ F', DS w' ⟨b, 0, none⟩ F' c l L' ∧ Kept (fun k => k = b ∨ G k) w w' ∧ (∀ q, F' q → (q = b ∨ G q) ∨ w.heap.size ≤ q)) := Lib.hid (fun w' G' L' h1 h2 h3 => ds_turn hr hok hl0 hl1 hb hGb h1 h2 h3)
  have hrw := rws_bd hr
  by_cases hk : keys c l ≤ k
  · rw [if_pos hk, if_pos hk]
    obtain ⟨K, hK⟩ : ∃ K, keys c l = K := ⟨_, rfl⟩
    rw [hK] at hk CK
    clear hb hg hrw hK
    go_enter Tryz.func12, Tryz.ntmps12
    go_upto_region 1 with fail
    go_region_held3 (fun w' => w'.cell? ⟨b, 0, none⟩ = some (.int .i64 c.bt) ∧ w'.cell? ⟨b, 1, none⟩ = some (.int .i64 c.rw) ∧ w'.cell? ⟨b, 2, none⟩ = some (.int .i64 c.wd) ∧ w'.cell? ⟨b, 3, none⟩ = some (.int .i64 c.md) ∧ w'.cell? ⟨b, 4, none⟩ = some (.int .u64 c.sd) ∧ w'.cell? ⟨b, 5, none⟩ = some (.int .i64 l)) (first | (refine ⟨?_, ?_, ?_, ?_, ?_, ?_⟩ <;> (first | (with_reducible assumption) | (with_reducible refine cell_up c0 ?_) | (with_reducible refine cell_up c1 ?_) | (with_reducible refine cell_up c2 ?_) | (with_reducible refine cell_up c3 ?_) | (with_reducible refine cell_up c4 ?_) | (with_reducible refine cell_up c5 ?_)) <;> repeat' (first | (with_reducible exact Below.refl _ _) | (with_reducible assumption) | (with_reducible refine below_over ?_ _ _) | (with_reducible refine Lw.below_alloc ?_ _) | (with_reducible refine Below.drew ?_) | (with_reducible refine below_drewN ?_ _) | (with_reducible refine Below.setCell ?_ ?_ _) | go_size))) (first
      | (go_at_call 28; (with_reducible refine (CK.out _).mono ?_); rintro e w' ⟨rfl, hb⟩; obtain ⟨bs, dd, rfl⟩ := below_grow hb; clear hb))
    all_goals go_wp2
    all_goals go_ret
    all_goals exact ⟨rfl, _, HS.out.up (by repeat' (first | (with_reducible exact Below.refl _ _) | (with_reducible assumption) | (with_reducible refine below_over ?_ _ _) | (with_reducible refine Lw.below_alloc ?_ _) | (with_reducible refine Below.drew ?_) | (with_reducible refine below_drewN ?_ _) | (with_reducible refine Below.setCell ?_ ?_ _) | go_size)), Kept.of_below (by repeat' (first | (with_reducible exact Below.refl _ _) | (with_reducible assumption) | (with_reducible refine below_over ?_ _ _) | (with_reducible refine Lw.below_alloc ?_ _) | (with_reducible refine Below.drew ?_) | (with_reducible refine below_drewN ?_ _) | (with_reducible refine Below.setCell ?_ ?_ _) | go_size)), fun q hq => .inl hq⟩
  · rw [if_neg hk, if_neg hk]
    have hk2 : k < keys c l := by omega
    have hlen : (cols c l k).length = rws c := (cols_meet k0 hk2).2.1
    have CR := Lib.hid (fun A cap w' hd h1 hap => rraise_any gp G (rws c) (wds c) L (some A) (rws c) cap (cols c l k) d w' hd h1 hap hlen (by omega) (in64_cols c l k) d0 d1)
    have CH := Lib.hid (fun A cap w' hd h1 hap => rchange_any gp G (rws c) (wds c) L (some A) (rws c) cap (cols c l k) d w' hd h1 hap hlen (by omega) (in64_cols c l k) d0 d1)
    have GL := Lib.hid (fun q (hq : G q) => (dgT gp G _ _ L).lt w hg q hq)
    have HG := Lib.hid hg
    rw [hlen] at CC
    obtain ⟨K, hK⟩ : ∃ K, keys c l = K := ⟨_, rfl⟩
    rw [hK] at hk2 CK
    obtain ⟨n, hn⟩ : ∃ n, rws c = n := ⟨_, rfl⟩
    rw [hn] at CC CR CH HT HG ⊢
    have hkx : ¬ K ≤ k := by omega
    have hgb : decide (K ≤ k) = false := decide_eq_false hkx
    have HB := Lib.hid hb
    clear hb hg hrw hK hk hlen hn
    by_cases hm : c.md = 2
    · rw [if_pos hm, if_pos hm]
      have hmb : (c.md == 2) = true := by simp [hm]
      clear hm
      go_enter Tryz.func12, Tryz.ntmps12
      go_upto_region 1 with fail
      go_region_held3 (fun w' => w'.cell? ⟨b, 0, none⟩ = some (.int .i64 c.bt) ∧ w'.cell? ⟨b, 1, none⟩ = some (.int .i64 c.rw) ∧ w'.cell? ⟨b, 2, none⟩ = some (.int .i64 c.wd) ∧ w'.cell? ⟨b, 3, none⟩ = some (.int .i64 c.md) ∧ w'.cell? ⟨b, 4, none⟩ = some (.int .u64 c.sd) ∧ w'.cell? ⟨b, 5, none⟩ = some (.int .i64 l)) (first | (refine ⟨?_, ?_, ?_, ?_, ?_, ?_⟩ <;> (first | (with_reducible assumption) | (with_reducible refine cell_up c0 ?_) | (with_reducible refine cell_up c1 ?_) | (with_reducible refine cell_up c2 ?_) | (with_reducible refine cell_up c3 ?_) | (with_reducible refine cell_up c4 ?_) | (with_reducible refine cell_up c5 ?_)) <;> repeat' (first | (with_reducible exact Below.refl _ _) | (with_reducible assumption) | (with_reducible refine below_over ?_ _ _) | (with_reducible refine Lw.below_alloc ?_ _) | (with_reducible refine Below.drew ?_) | (with_reducible refine below_drewN ?_ _) | (with_reducible refine Below.setCell ?_ ?_ _) | go_size))) (first
        | (go_at_call 28; (with_reducible refine (CK.out _).mono ?_); rintro e w' ⟨rfl, hb⟩; obtain ⟨bs, dd, rfl⟩ := below_grow hb; clear hb))
      obtain ⟨w1, hw1⟩ : ∃ w1, w1 = (grow w.drew bs dd) := ⟨_, rfl⟩
      go_upto_region 3 with fail
      go_region_held3 (fun w' => w'.cell? ⟨b, 0, none⟩ = some (.int .i64 c.bt) ∧ w'.cell? ⟨b, 1, none⟩ = some (.int .i64 c.rw) ∧ w'.cell? ⟨b, 2, none⟩ = some (.int .i64 c.wd) ∧ w'.cell? ⟨b, 3, none⟩ = some (.int .i64 c.md) ∧ w'.cell? ⟨b, 4, none⟩ = some (.int .u64 c.sd) ∧ w'.cell? ⟨b, 5, none⟩ = some (.int .i64 l)) (first | (refine ⟨?_, ?_, ?_, ?_, ?_, ?_⟩ <;> (first | (with_reducible assumption) | (with_reducible refine cell_up c0 ?_) | (with_reducible refine cell_up c1 ?_) | (with_reducible refine cell_up c2 ?_) | (with_reducible refine cell_up c3 ?_) | (with_reducible refine cell_up c4 ?_) | (with_reducible refine cell_up c5 ?_)) <;> repeat' (first | (with_reducible exact Below.refl _ _) | (with_reducible assumption) | (with_reducible refine below_over ?_ _ _) | (with_reducible refine Lw.below_alloc ?_ _) | (with_reducible refine Below.drew ?_) | (with_reducible refine below_drewN ?_ _) | (with_reducible refine Below.setCell ?_ ?_ _) | go_size))) (first
        | (go_at_call 29; (with_reducible refine (CC.out _).mono ?_); rintro e w2 ⟨A, cap, rfl, h1, h2, h3, h4, hb⟩; have RD := Lib.hid h1; have HA : Hid (w.heap.size ≤ A.block) := Lib.hid (Nat.le_trans (Below.size (show Below w.heap.size w _ from (by repeat' (first | (with_reducible exact Below.refl _ _) | (with_reducible assumption) | (with_reducible refine below_over ?_ _ _) | (with_reducible refine Lw.below_alloc ?_ _) | (with_reducible refine Below.drew ?_) | (with_reducible refine below_drewN ?_ _) | (with_reducible refine Below.setCell ?_ ?_ _) | go_size)))) h4); have HB2 : Hid (Below w.heap.size w w2) := Lib.hid (below_call (show Below w.heap.size w _ from (by repeat' (first | (with_reducible exact Below.refl _ _) | (with_reducible assumption) | (with_reducible refine below_over ?_ _ _) | (with_reducible refine Lw.below_alloc ?_ _) | (with_reducible refine Below.drew ?_) | (with_reducible refine below_drewN ?_ _) | (with_reducible refine Below.setCell ?_ ?_ _) | go_size))) hb (Nat.le_refl _)); clear h1 h2 h3 h4 hb; have hbw2 := HB2.out))
      have s3 := cell_up c3 HB2.out
      have s6 := cell_up c6 HB2.out
      clear c0 c1 c2 c3 c4 c5 c6
      go_wp2_with (go_at_call 35; (with_reducible refine (CR.out A cap _ (dg_up HG.out (below_call HB2.out (by repeat' (first | (with_reducible exact Below.refl _ _) | (with_reducible assumption) | (with_reducible refine below_over ?_ _ _) | (with_reducible refine Lw.below_alloc ?_ _) | (with_reducible refine Below.drew ?_) | (with_reducible refine below_drewN ?_ _) | (with_reducible refine Below.setCell ?_ ?_ _) | go_size)) (Nat.le_refl _))) (RD.out.up (by repeat' (first | (with_reducible exact Below.refl _ _) | (with_reducible assumption) | (with_reducible refine below_over ?_ _ _) | (with_reducible refine Lw.below_alloc ?_ _) | (with_reducible refine Below.drew ?_) | (with_reducible refine below_drewN ?_ _) | (with_reducible refine Below.setCell ?_ ?_ _) | go_size))) (fun a ha hGa => by injection ha with ha; subst ha; have := GL.out _ hGa; have := HA.out; omega)).mono ?_); rintro e w6 ⟨rfl, G6, hp6, hk6, hf6⟩; have HK6 : Hid (Kept G w w6) := Lib.hid ((Kept.of_below (below_call HB2.out (by repeat' (first | (with_reducible exact Below.refl _ _) | (with_reducible assumption) | (with_reducible refine below_over ?_ _ _) | (with_reducible refine Lw.below_alloc ?_ _) | (with_reducible refine Below.drew ?_) | (with_reducible refine below_drewN ?_ _) | (with_reducible refine Below.setCell ?_ ?_ _) | go_size)) (Nat.le_refl _))).trans hk6 (fun q hq h => h)); have HP6 := Lib.hid hp6; have HF6 := Lib.hid hf6; clear hp6 hk6 hf6)
      all_goals go_ret
      all_goals exact ⟨rfl, HT.out _ _ _ HP6.out HK6.out (fun q hq => (HF6.out q hq).elim .inl (fun h => .inr (Nat.le_trans HB2.out.size h)))⟩
    · rw [if_neg hm, if_neg hm]
      have hmb : (c.md == 2) = false := by simpa using hm
      clear hm
      go_enter Tryz.func12, Tryz.ntmps12
      go_upto_region 1 with fail
      go_region_held3 (fun w' => w'.cell? ⟨b, 0, none⟩ = some (.int .i64 c.bt) ∧ w'.cell? ⟨b, 1, none⟩ = some (.int .i64 c.rw) ∧ w'.cell? ⟨b, 2, none⟩ = some (.int .i64 c.wd) ∧ w'.cell? ⟨b, 3, none⟩ = some (.int .i64 c.md) ∧ w'.cell? ⟨b, 4, none⟩ = some (.int .u64 c.sd) ∧ w'.cell? ⟨b, 5, none⟩ = some (.int .i64 l)) (first | (refine ⟨?_, ?_, ?_, ?_, ?_, ?_⟩ <;> (first | (with_reducible assumption) | (with_reducible refine cell_up c0 ?_) | (with_reducible refine cell_up c1 ?_) | (with_reducible refine cell_up c2 ?_) | (with_reducible refine cell_up c3 ?_) | (with_reducible refine cell_up c4 ?_) | (with_reducible refine cell_up c5 ?_)) <;> repeat' (first | (with_reducible exact Below.refl _ _) | (with_reducible assumption) | (with_reducible refine below_over ?_ _ _) | (with_reducible refine Lw.below_alloc ?_ _) | (with_reducible refine Below.drew ?_) | (with_reducible refine below_drewN ?_ _) | (with_reducible refine Below.setCell ?_ ?_ _) | go_size))) (first
        | (go_at_call 28; (with_reducible refine (CK.out _).mono ?_); rintro e w' ⟨rfl, hb⟩; obtain ⟨bs, dd, rfl⟩ := below_grow hb; clear hb))
      obtain ⟨w1, hw1⟩ : ∃ w1, w1 = (grow w.drew bs dd) := ⟨_, rfl⟩
      go_upto_region 3 with fail
      go_region_held3 (fun w' => w'.cell? ⟨b, 0, none⟩ = some (.int .i64 c.bt) ∧ w'.cell? ⟨b, 1, none⟩ = some (.int .i64 c.rw) ∧ w'.cell? ⟨b, 2, none⟩ = some (.int .i64 c.wd) ∧ w'.cell? ⟨b, 3, none⟩ = some (.int .i64 c.md) ∧ w'.cell? ⟨b, 4, none⟩ = some (.int .u64 c.sd) ∧ w'.cell? ⟨b, 5, none⟩ = some (.int .i64 l)) (first | (refine ⟨?_, ?_, ?_, ?_, ?_, ?_⟩ <;> (first | (with_reducible assumption) | (with_reducible refine cell_up c0 ?_) | (with_reducible refine cell_up c1 ?_) | (with_reducible refine cell_up c2 ?_) | (with_reducible refine cell_up c3 ?_) | (with_reducible refine cell_up c4 ?_) | (with_reducible refine cell_up c5 ?_)) <;> repeat' (first | (with_reducible exact Below.refl _ _) | (with_reducible assumption) | (with_reducible refine below_over ?_ _ _) | (with_reducible refine Lw.below_alloc ?_ _) | (with_reducible refine Below.drew ?_) | (with_reducible refine below_drewN ?_ _) | (with_reducible refine Below.setCell ?_ ?_ _) | go_size))) (first
        | (go_at_call 29; (with_reducible refine (CC.out _).mono ?_); rintro e w2 ⟨A, cap, rfl, h1, h2, h3, h4, hb⟩; have RD := Lib.hid h1; have HA : Hid (w.heap.size ≤ A.block) := Lib.hid (Nat.le_trans (Below.size (show Below w.heap.size w _ from (by repeat' (first | (with_reducible exact Below.refl _ _) | (with_reducible assumption) | (with_reducible refine below_over ?_ _ _) | (with_reducible refine Lw.below_alloc ?_ _) | (with_reducible refine Below.drew ?_) | (with_reducible refine below_drewN ?_ _) | (with_reducible refine Below.setCell ?_ ?_ _) | go_size)))) h4); have HB2 : Hid (Below w.heap.size w w2) := Lib.hid (below_call (show Below w.heap.size w _ from (by repeat' (first | (with_reducible exact Below.refl _ _) | (with_reducible assumption) | (with_reducible refine below_over ?_ _ _) | (with_reducible refine Lw.below_alloc ?_ _) | (with_reducible refine Below.drew ?_) | (with_reducible refine below_drewN ?_ _) | (with_reducible refine Below.setCell ?_ ?_ _) | go_size))) hb (Nat.le_refl _)); clear h1 h2 h3 h4 hb; have hbw2 := HB2.out))
      have s3 := cell_up c3 HB2.out
      have s6 := cell_up c6 HB2.out
      clear c0 c1 c2 c3 c4 c5 c6
      go_wp2_with (go_at_call 36; (with_reducible refine (CH.out A cap _ (dg_up HG.out (below_call HB2.out (by repeat' (first | (with_reducible exact Below.refl _ _) | (with_reducible assumption) | (with_reducible refine below_over ?_ _ _) | (with_reducible refine Lw.below_alloc ?_ _) | (with_reducible refine Below.drew ?_) | (with_reducible refine below_drewN ?_ _) | (with_reducible refine Below.setCell ?_ ?_ _) | go_size)) (Nat.le_refl _))) (RD.out.up (by repeat' (first | (with_reducible exact Below.refl _ _) | (with_reducible assumption) | (with_reducible refine below_over ?_ _ _) | (with_reducible refine Lw.below_alloc ?_ _) | (with_reducible refine Below.drew ?_) | (with_reducible refine below_drewN ?_ _) | (with_reducible refine Below.setCell ?_ ?_ _) | go_size))) (fun a ha hGa => by injection ha with ha; subst ha; have := GL.out _ hGa; have := HA.out; omega)).mono ?_); rintro e w6 ⟨rfl, G6, hp6, hk6, hf6⟩; have HK6 : Hid (Kept G w w6) := Lib.hid ((Kept.of_below (below_call HB2.out (by repeat' (first | (with_reducible exact Below.refl _ _) | (with_reducible assumption) | (with_reducible refine below_over ?_ _ _) | (with_reducible refine Lw.below_alloc ?_ _) | (with_reducible refine Below.drew ?_) | (with_reducible refine below_drewN ?_ _) | (with_reducible refine Below.setCell ?_ ?_ _) | go_size)) (Nat.le_refl _))).trans hk6 (fun q hq h => h)); have HP6 := Lib.hid hp6; have HF6 := Lib.hid hf6; clear hp6 hk6 hf6)
      all_goals go_ret
      all_goals exact ⟨rfl, HT.out _ _ _ HP6.out HK6.out (fun q hq => (HF6.out q hq).elim .inl (fun h => .inr (Nat.le_trans HB2.out.size h)))⟩
end Go.Proofs.YthecgkgnngpikaaGreat.Sk
/- The document's sketch: Point, Join. Printed by wip/gen/skdoc.py. -/
namespace Go.Proofs.YthecgkgnngpikaaGreat.Sk
open Go Go.RowKit Lw Grd Lin Con Shp
set_option linter.unusedVariables false
set_option linter.unusedSimpArgs false
set_option maxRecDepth 100000 in
set_option maxHeartbeats 4000000 in
theorem rspoint_any (p : Addr) (F : Nat → Prop) (c : Cfg) (l : Int) (L : List (List Int)) (k : Int) (w : World) (h : DS w p F c l L) (k0 : 0 ≤ k) (k1 : k ≤ 18446744073709551615) :
    Calls Tryz.prog 9 #[.pointer (some p), .int .u64 k] w fun e w' => e = .returned (.tuple #[.int .i64 (ptVal c l L k), .int .i64 (ptCode c l k)]) ∧ Below w.heap.size w w' := by
  have HS := Lib.hid h
  obtain ⟨hr, hok, hl0, hl1, b, gp, G, rfl, hb, hg, hGb, rfl⟩ := h
  have hbl := size_of_heap hb
  have c0 := grd_cell hb 0 (v := .int .i64 c.bt) rfl
  have c1 := grd_cell hb 1 (v := .int .i64 c.rw) rfl
  have c2 := grd_cell hb 2 (v := .int .i64 c.wd) rfl
  have c3 := grd_cell hb 3 (v := .int .i64 c.md) rfl
  have c4 := grd_cell hb 4 (v := .int .u64 c.sd) rfl
  have c5 := grd_cell hb 5 (v := .int .i64 l) rfl
  have c6 := grd_cell hb 6 (v := .pointer (some gp)) rfl
  have hbt := hr.2.1
  have CK := Lib.hid (fun w => rkeys_any c l w hok (by omega) (by omega))
  have CC := Lib.hid (fun w => rcols_own c l k w hok (by omega) (by omega) k0 k1)
  have hrw := rws_bd hr
  by_cases hk : keys c l ≤ k
  · have e1 : ptVal c l L k = 0 := if_pos hk
    have e2 : ptCode c l k = 2 := if_pos hk
    rw [e1, e2]
    obtain ⟨K, hK⟩ : ∃ K, keys c l = K := ⟨_, rfl⟩
    rw [hK] at hk CK
    clear hb hg hrw hK e1 e2
    go_enter Tryz.func9, Tryz.ntmps9
    go_upto_region 1 with fail
    go_region_held3 (fun w' => w'.cell? ⟨b, 0, none⟩ = some (.int .i64 c.bt) ∧ w'.cell? ⟨b, 1, none⟩ = some (.int .i64 c.rw) ∧ w'.cell? ⟨b, 2, none⟩ = some (.int .i64 c.wd) ∧ w'.cell? ⟨b, 3, none⟩ = some (.int .i64 c.md) ∧ w'.cell? ⟨b, 4, none⟩ = some (.int .u64 c.sd) ∧ w'.cell? ⟨b, 5, none⟩ = some (.int .i64 l)) (first | (refine ⟨?_, ?_, ?_, ?_, ?_, ?_⟩ <;> (first | (with_reducible assumption) | (with_reducible refine cell_up c0 ?_) | (with_reducible refine cell_up c1 ?_) | (with_reducible refine cell_up c2 ?_) | (with_reducible refine cell_up c3 ?_) | (with_reducible refine cell_up c4 ?_) | (with_reducible refine cell_up c5 ?_)) <;> repeat' (first | (with_reducible exact Below.refl _ _) | (with_reducible assumption) | (with_reducible refine below_over ?_ _ _) | (with_reducible refine Lw.below_alloc ?_ _) | (with_reducible refine Below.drew ?_) | (with_reducible refine below_drewN ?_ _) | (with_reducible refine Below.setCell ?_ ?_ _) | go_size))) (first
      | (go_at_call 28; (with_reducible refine (CK.out _).mono ?_); rintro e w' ⟨rfl, hb⟩; obtain ⟨bs, dd, rfl⟩ := below_grow hb; clear hb))
    all_goals go_wp2
    all_goals go_ret2
    all_goals exact ⟨rfl, (by repeat' (first | (with_reducible exact Below.refl _ _) | (with_reducible assumption) | (with_reducible refine below_over ?_ _ _) | (with_reducible refine Lw.below_alloc ?_ _) | (with_reducible refine Below.drew ?_) | (with_reducible refine below_drewN ?_ _) | (with_reducible refine Below.setCell ?_ ?_ _) | go_size))⟩
  · have hk2 : k < keys c l := by omega
    rw [pt_ok hk2]
    have hme := cols_meet k0 hk2
    have hlen : (cols c l k).length = rws c := hme.2.1
    have GL := Lib.hid (fun q (hq : G q) => (dgT gp G _ _ L).lt w hg q hq)
    have HG := Lib.hid hg
    have CM := Lib.hid (fun A cap w' hd h1 => rmiddle_any gp G (rws c) (wds c) L (some A) (rws c) cap (cols c l k) w' hd h1 hlen (by omega) (in64_cols c l k))
    have CL := Lib.hid (fun A cap w' hd h1 => rlea_any gp G (rws c) (wds c) L (some A) (rws c) cap (cols c l k) w' hd h1 hlen (by omega) (in64_cols c l k) hme)
    have er : readOf (rws c) (wds c) L (cols c l k) = named L (cols c l k) := if_pos hme
    have ec : rdCode (rws c) (wds c) (cols c l k) = 0 := if_pos hme
    rw [er, ec] at CM
    rw [hlen] at CC
    have HV : Hid (ptVal c l L k = if c.md = 3 then Ord.kv (named L (cols c l k)) ((((named L (cols c l k)).length : Int) - 1) / 2) else lea L (cols c l k)) := Lib.hid (if_neg hk)
    obtain ⟨v1, hv1⟩ : ∃ v, Ord.kv (named L (cols c l k)) ((((named L (cols c l k)).length : Int) - 1) / 2) = v := ⟨_, rfl⟩
    obtain ⟨v2, hv2⟩ : ∃ v, lea L (cols c l k) = v := ⟨_, rfl⟩
    rw [hv1] at CM HV
    rw [hv2] at CL HV
    obtain ⟨K, hK⟩ : ∃ K, keys c l = K := ⟨_, rfl⟩
    rw [hK] at hk2 CK
    obtain ⟨n, hn⟩ : ∃ n, rws c = n := ⟨_, rfl⟩
    rw [hn] at CC CM CL HG
    have hkx : ¬ K ≤ k := by omega
    have hgb : decide (K ≤ k) = false := decide_eq_false hkx
    clear hb hg hrw hK hk hlen hn hme er ec hv1 hv2
    by_cases hm : c.md = 3
    · have hv : ptVal c l L k = v1 := by rw [HV.out, if_pos hm]
      rw [hv]
      have hmb : (c.md == 3) = true := by simp [hm]
      clear hm hv
      go_enter Tryz.func9, Tryz.ntmps9
      go_upto_region 1 with fail
      go_region_held3 (fun w' => w'.cell? ⟨b, 0, none⟩ = some (.int .i64 c.bt) ∧ w'.cell? ⟨b, 1, none⟩ = some (.int .i64 c.rw) ∧ w'.cell? ⟨b, 2, none⟩ = some (.int .i64 c.wd) ∧ w'.cell? ⟨b, 3, none⟩ = some (.int .i64 c.md) ∧ w'.cell? ⟨b, 4, none⟩ = some (.int .u64 c.sd) ∧ w'.cell? ⟨b, 5, none⟩ = some (.int .i64 l)) (first | (refine ⟨?_, ?_, ?_, ?_, ?_, ?_⟩ <;> (first | (with_reducible assumption) | (with_reducible refine cell_up c0 ?_) | (with_reducible refine cell_up c1 ?_) | (with_reducible refine cell_up c2 ?_) | (with_reducible refine cell_up c3 ?_) | (with_reducible refine cell_up c4 ?_) | (with_reducible refine cell_up c5 ?_)) <;> repeat' (first | (with_reducible exact Below.refl _ _) | (with_reducible assumption) | (with_reducible refine below_over ?_ _ _) | (with_reducible refine Lw.below_alloc ?_ _) | (with_reducible refine Below.drew ?_) | (with_reducible refine below_drewN ?_ _) | (with_reducible refine Below.setCell ?_ ?_ _) | go_size))) (first
        | (go_at_call 28; (with_reducible refine (CK.out _).mono ?_); rintro e w' ⟨rfl, hb⟩; obtain ⟨bs, dd, rfl⟩ := below_grow hb; clear hb))
      go_upto_region 3 with fail
      go_region_held3 (fun w' => w'.cell? ⟨b, 0, none⟩ = some (.int .i64 c.bt) ∧ w'.cell? ⟨b, 1, none⟩ = some (.int .i64 c.rw) ∧ w'.cell? ⟨b, 2, none⟩ = some (.int .i64 c.wd) ∧ w'.cell? ⟨b, 3, none⟩ = some (.int .i64 c.md) ∧ w'.cell? ⟨b, 4, none⟩ = some (.int .u64 c.sd) ∧ w'.cell? ⟨b, 5, none⟩ = some (.int .i64 l)) (first | (refine ⟨?_, ?_, ?_, ?_, ?_, ?_⟩ <;> (first | (with_reducible assumption) | (with_reducible refine cell_up c0 ?_) | (with_reducible refine cell_up c1 ?_) | (with_reducible refine cell_up c2 ?_) | (with_reducible refine cell_up c3 ?_) | (with_reducible refine cell_up c4 ?_) | (with_reducible refine cell_up c5 ?_)) <;> repeat' (first | (with_reducible exact Below.refl _ _) | (with_reducible assumption) | (with_reducible refine below_over ?_ _ _) | (with_reducible refine Lw.below_alloc ?_ _) | (with_reducible refine Below.drew ?_) | (with_reducible refine below_drewN ?_ _) | (with_reducible refine Below.setCell ?_ ?_ _) | go_size))) (first
        | (go_at_call 29; (with_reducible refine (CC.out _).mono ?_); rintro e w2 ⟨A, cap, rfl, h1, h2, h3, h4, hb⟩; have RD := Lib.hid h1; have HB2 : Hid (Below w.heap.size w w2) := Lib.hid (below_call (show Below w.heap.size w _ from (by repeat' (first | (with_reducible exact Below.refl _ _) | (with_reducible assumption) | (with_reducible refine below_over ?_ _ _) | (with_reducible refine Lw.below_alloc ?_ _) | (with_reducible refine Below.drew ?_) | (with_reducible refine below_drewN ?_ _) | (with_reducible refine Below.setCell ?_ ?_ _) | go_size))) hb (Nat.le_refl _)); clear h1 h2 h3 h4 hb; have hbw2 := HB2.out))
      have s3 := cell_up c3 HB2.out
      have s6 := cell_up c6 HB2.out
      clear c0 c1 c2 c3 c4 c5 c6
      go_wp2_with (go_at_call 30; (with_reducible refine (CM.out A cap _ (dg_up HG.out (below_call HB2.out (by repeat' (first | (with_reducible exact Below.refl _ _) | (with_reducible assumption) | (with_reducible refine below_over ?_ _ _) | (with_reducible refine Lw.below_alloc ?_ _) | (with_reducible refine Below.drew ?_) | (with_reducible refine below_drewN ?_ _) | (with_reducible refine Below.setCell ?_ ?_ _) | go_size)) (Nat.le_refl _))) (RD.out.up (by repeat' (first | (with_reducible exact Below.refl _ _) | (with_reducible assumption) | (with_reducible refine below_over ?_ _ _) | (with_reducible refine Lw.below_alloc ?_ _) | (with_reducible refine Below.drew ?_) | (with_reducible refine below_drewN ?_ _) | (with_reducible refine Below.setCell ?_ ?_ _) | go_size)))).mono ?_); rintro e w6 ⟨rfl, hb6⟩; have HB6 := Lib.hid (below_call HB2.out (below_call (show Below w2.heap.size w2 _ from (by repeat' (first | (with_reducible exact Below.refl _ _) | (with_reducible assumption) | (with_reducible refine below_over ?_ _ _) | (with_reducible refine Lw.below_alloc ?_ _) | (with_reducible refine Below.drew ?_) | (with_reducible refine below_drewN ?_ _) | (with_reducible refine Below.setCell ?_ ?_ _) | go_size))) hb6 (Nat.le_refl _)) (Nat.le_refl _)); clear hb6)
      all_goals go_ret2
      all_goals exact ⟨rfl, HB6.out⟩
    · have hv : ptVal c l L k = v2 := by rw [HV.out, if_neg hm]
      rw [hv]
      have hmb : (c.md == 3) = false := by simpa using hm
      clear hm hv
      go_enter Tryz.func9, Tryz.ntmps9
      go_upto_region 1 with fail
      go_region_held3 (fun w' => w'.cell? ⟨b, 0, none⟩ = some (.int .i64 c.bt) ∧ w'.cell? ⟨b, 1, none⟩ = some (.int .i64 c.rw) ∧ w'.cell? ⟨b, 2, none⟩ = some (.int .i64 c.wd) ∧ w'.cell? ⟨b, 3, none⟩ = some (.int .i64 c.md) ∧ w'.cell? ⟨b, 4, none⟩ = some (.int .u64 c.sd) ∧ w'.cell? ⟨b, 5, none⟩ = some (.int .i64 l)) (first | (refine ⟨?_, ?_, ?_, ?_, ?_, ?_⟩ <;> (first | (with_reducible assumption) | (with_reducible refine cell_up c0 ?_) | (with_reducible refine cell_up c1 ?_) | (with_reducible refine cell_up c2 ?_) | (with_reducible refine cell_up c3 ?_) | (with_reducible refine cell_up c4 ?_) | (with_reducible refine cell_up c5 ?_)) <;> repeat' (first | (with_reducible exact Below.refl _ _) | (with_reducible assumption) | (with_reducible refine below_over ?_ _ _) | (with_reducible refine Lw.below_alloc ?_ _) | (with_reducible refine Below.drew ?_) | (with_reducible refine below_drewN ?_ _) | (with_reducible refine Below.setCell ?_ ?_ _) | go_size))) (first
        | (go_at_call 28; (with_reducible refine (CK.out _).mono ?_); rintro e w' ⟨rfl, hb⟩; obtain ⟨bs, dd, rfl⟩ := below_grow hb; clear hb))
      go_upto_region 3 with fail
      go_region_held3 (fun w' => w'.cell? ⟨b, 0, none⟩ = some (.int .i64 c.bt) ∧ w'.cell? ⟨b, 1, none⟩ = some (.int .i64 c.rw) ∧ w'.cell? ⟨b, 2, none⟩ = some (.int .i64 c.wd) ∧ w'.cell? ⟨b, 3, none⟩ = some (.int .i64 c.md) ∧ w'.cell? ⟨b, 4, none⟩ = some (.int .u64 c.sd) ∧ w'.cell? ⟨b, 5, none⟩ = some (.int .i64 l)) (first | (refine ⟨?_, ?_, ?_, ?_, ?_, ?_⟩ <;> (first | (with_reducible assumption) | (with_reducible refine cell_up c0 ?_) | (with_reducible refine cell_up c1 ?_) | (with_reducible refine cell_up c2 ?_) | (with_reducible refine cell_up c3 ?_) | (with_reducible refine cell_up c4 ?_) | (with_reducible refine cell_up c5 ?_)) <;> repeat' (first | (with_reducible exact Below.refl _ _) | (with_reducible assumption) | (with_reducible refine below_over ?_ _ _) | (with_reducible refine Lw.below_alloc ?_ _) | (with_reducible refine Below.drew ?_) | (with_reducible refine below_drewN ?_ _) | (with_reducible refine Below.setCell ?_ ?_ _) | go_size))) (first
        | (go_at_call 29; (with_reducible refine (CC.out _).mono ?_); rintro e w2 ⟨A, cap, rfl, h1, h2, h3, h4, hb⟩; have RD := Lib.hid h1; have HB2 : Hid (Below w.heap.size w w2) := Lib.hid (below_call (show Below w.heap.size w _ from (by repeat' (first | (with_reducible exact Below.refl _ _) | (with_reducible assumption) | (with_reducible refine below_over ?_ _ _) | (with_reducible refine Lw.below_alloc ?_ _) | (with_reducible refine Below.drew ?_) | (with_reducible refine below_drewN ?_ _) | (with_reducible refine Below.setCell ?_ ?_ _) | go_size))) hb (Nat.le_refl _)); clear h1 h2 h3 h4 hb; have hbw2 := HB2.out))
      have s3 := cell_up c3 HB2.out
      have s6 := cell_up c6 HB2.out
      clear c0 c1 c2 c3 c4 c5 c6
      go_wp2_with (go_at_call 31; (with_reducible refine (CL.out A cap _ (dg_up HG.out (below_call HB2.out (by repeat' (first | (with_reducible exact Below.refl _ _) | (with_reducible assumption) | (with_reducible refine below_over ?_ _ _) | (with_reducible refine Lw.below_alloc ?_ _) | (with_reducible refine Below.drew ?_) | (with_reducible refine below_drewN ?_ _) | (with_reducible refine Below.setCell ?_ ?_ _) | go_size)) (Nat.le_refl _))) (RD.out.up (by repeat' (first | (with_reducible exact Below.refl _ _) | (with_reducible assumption) | (with_reducible refine below_over ?_ _ _) | (with_reducible refine Lw.below_alloc ?_ _) | (with_reducible refine Below.drew ?_) | (with_reducible refine below_drewN ?_ _) | (with_reducible refine Below.setCell ?_ ?_ _) | go_size)))).mono ?_); rintro e w6 ⟨rfl, hb6⟩; have HB6 := Lib.hid (below_call HB2.out (below_call (show Below w2.heap.size w2 _ from (by repeat' (first | (with_reducible exact Below.refl _ _) | (with_reducible assumption) | (with_reducible refine below_over ?_ _ _) | (with_reducible refine Lw.below_alloc ?_ _) | (with_reducible refine Below.drew ?_) | (with_reducible refine below_drewN ?_ _) | (with_reducible refine Below.setCell ?_ ?_ _) | go_size))) hb6 (Nat.le_refl _)) (Nat.le_refl _)); clear hb6)
      all_goals go_ret2
      all_goals exact ⟨rfl, HB6.out⟩
set_option maxRecDepth 100000 in
set_option maxHeartbeats 4000000 in
theorem rsjoin_p (p : Addr) (F : Nat → Prop) (c : Cfg) (l : Int) (L : List (List Int)) (q : Addr) (G' : Nat → Prop) (M : List (List Int)) (w : World) (h : DS w p F c l L) (g : DS w q G' c l M) (hsep : ∀ k, F k → ¬ G' k) :
    Calls Tryz.prog 14 #[.pointer (some p), .pointer (some q), .int .i64 (1)] w fun e w' => e = .returned (.int .i64 (jcode (1) (rws c) (wds c) (rws c) (wds c) L M)) ∧ ∃ F', DS w' p F' c l (jres (1) (rws c) (wds c) (rws c) (wds c) L M) ∧ Kept F w w' ∧ (∀ q, F' q → F q ∨ w.heap.size ≤ q) := by
  have HS := Lib.hid h
  obtain ⟨hr, hok, hl0, hl1, b, gp, G, rfl, hb, hg, hGb, rfl⟩ := h
  obtain ⟨hr2, hok2, gl0, gl1, b2, gp2, G2, rfl, hb2, hg2, hGb2, rfl⟩ := g
  have hbl := size_of_heap hb
  have hbl2 := size_of_heap hb2
  have c0 := grd_cell hb 0 (v := .int .i64 c.bt) rfl
  have c1 := grd_cell hb 1 (v := .int .i64 c.rw) rfl
  have c2 := grd_cell hb 2 (v := .int .i64 c.wd) rfl
  have c3 := grd_cell hb 3 (v := .int .i64 c.md) rfl
  have c4 := grd_cell hb 4 (v := .int .u64 c.sd) rfl
  have c5 := grd_cell hb 5 (v := .int .i64 l) rfl
  have c6 := grd_cell hb 6 (v := .pointer (some gp)) rfl
  have e0 := grd_cell hb2 0 (v := .int .i64 c.bt) rfl
  have e1 := grd_cell hb2 1 (v := .int .i64 c.rw) rfl
  have e2 := grd_cell hb2 2 (v := .int .i64 c.wd) rfl
  have e3 := grd_cell hb2 3 (v := .int .i64 c.md) rfl
  have e4 := grd_cell hb2 4 (v := .int .u64 c.sd) rfl
  have e5 := grd_cell hb2 5 (v := .int .i64 l) rfl
  have e6 := grd_cell hb2 6 (v := .pointer (some gp2)) rfl
  have HT : Hid (∀ w' G' L', DG w' gp G' (rws c) (wds c) L' → Kept G w w' → (∀ k, G' k → G k ∨ w.heap.size ≤ k) → ∃ F', DS w' ⟨b, 0, none⟩ F' c l L' ∧ Kept (fun k => k = b ∨ G k) w w' ∧ (∀ q, F' q → (q = b ∨ G q) ∨ w.heap.size ≤ q)) := Lib.hid (fun w' G' L' h1 h2 h3 => ds_turn hr hok hl0 hl1 hb hGb h1 h2 h3)
  have CJ := Lib.hid (fun w' hd h1 => djoin_any gp G (rws c) (wds c) L gp2 G2 M (1) w' hd h1 (by omega))
  have HG := Lib.hid hg
  have HG2 := Lib.hid hg2
  have HY6 : Hid (∀ w', Kept G w w' → w'.cell? ⟨b2, 6, none⟩ = some (.pointer (some gp2))) := Lib.hid (fun w' hk => hk.cell e6 (fun h => hsep b2 (.inr h) (.inl rfl)))
  obtain ⟨V, hV⟩ : ∃ V, jcode (1) (rws c) (wds c) (rws c) (wds c) L M = V := ⟨_, rfl⟩
  obtain ⟨R, hR⟩ : ∃ R, jres (1) (rws c) (wds c) (rws c) (wds c) L M = R := ⟨_, rfl⟩
  rw [hV, hR] at CJ
  rw [hV, hR]
  clear hb hb2 hg hg2 hV hR hsep
  go_enter Tryz.func14, Tryz.ntmps14
  go_upto_region 1 with fail
  go_quiet (fail)
  all_goals go_upto_region 5 with fail
  all_goals go_region_held3 (fun w' => w'.cell? ⟨b, 6, none⟩ = some (.pointer (some gp)) ∧ w'.cell? ⟨b2, 6, none⟩ = some (.pointer (some gp2))) (first | (refine ⟨?_, ?_⟩ <;> (first | (with_reducible assumption) | (with_reducible refine cell_up c6 ?_) | (with_reducible refine cell_up e6 ?_)) <;> repeat' (first | (with_reducible exact Below.refl _ _) | (with_reducible assumption) | (with_reducible refine below_over ?_ _ _) | (with_reducible refine Lw.below_alloc ?_ _) | (with_reducible refine Below.drew ?_) | (with_reducible refine below_drewN ?_ _) | (with_reducible refine Below.setCell ?_ ?_ _) | go_size))) (first
    | (go_at_call 39; (with_reducible refine (CJ.out _ (dg_up HG.out (by repeat' (first | (with_reducible exact Below.refl _ _) | (with_reducible assumption) | (with_reducible refine below_over ?_ _ _) | (with_reducible refine Lw.below_alloc ?_ _) | (with_reducible refine Below.drew ?_) | (with_reducible refine below_drewN ?_ _) | (with_reducible refine Below.setCell ?_ ?_ _) | go_size))) (dg_up HG2.out (by repeat' (first | (with_reducible exact Below.refl _ _) | (with_reducible assumption) | (with_reducible refine below_over ?_ _ _) | (with_reducible refine Lw.below_alloc ?_ _) | (with_reducible refine Below.drew ?_) | (with_reducible refine below_drewN ?_ _) | (with_reducible refine Below.setCell ?_ ?_ _) | go_size)))).mono ?_); rintro e w6 ⟨rfl, G6, hp6, hk6, hf6⟩; have HK6 : Hid (Kept G w w6) := Lib.hid ((Kept.of_below (show Below w.heap.size w _ from (by repeat' (first | (with_reducible exact Below.refl _ _) | (with_reducible assumption) | (with_reducible refine below_over ?_ _ _) | (with_reducible refine Lw.below_alloc ?_ _) | (with_reducible refine Below.drew ?_) | (with_reducible refine below_drewN ?_ _) | (with_reducible refine Below.setCell ?_ ?_ _) | go_size)))).trans hk6 (fun q hq h => h)); have HP6 := Lib.hid hp6; have HF6 : Hid (∀ k, G6 k → G k ∨ w.heap.size ≤ k) := Lib.hid (fun k hk => (hf6 k hk).elim .inl (fun h => .inr (Nat.le_trans (Below.size (show Below w.heap.size w _ from (by repeat' (first | (with_reducible exact Below.refl _ _) | (with_reducible assumption) | (with_reducible refine below_over ?_ _ _) | (with_reducible refine Lw.below_alloc ?_ _) | (with_reducible refine Below.drew ?_) | (with_reducible refine below_drewN ?_ _) | (with_reducible refine Below.setCell ?_ ?_ _) | go_size)))) h))); have x6 : w6.cell? ⟨b, 6, none⟩ = some (.pointer (some gp)) := HK6.out.cell c6 hGb; have y6 := HY6.out w6 HK6.out; clear c6 e6; have c6 := x6; have e6 := y6; clear x6 y6 hp6 hk6 hf6))
  all_goals go_wp2
  all_goals go_ret
  all_goals exact ⟨rfl, HT.out _ _ _ HP6.out HK6.out HF6.out⟩
set_option maxRecDepth 100000 in
set_option maxHeartbeats 4000000 in
theorem rsjoin_m (p : Addr) (F : Nat → Prop) (c : Cfg) (l : Int) (L : List (List Int)) (q : Addr) (G' : Nat → Prop) (M : List (List Int)) (w : World) (h : DS w p F c l L) (g : DS w q G' c l M) (hsep : ∀ k, F k → ¬ G' k) (hm : c.md ≠ 2) :
    Calls Tryz.prog 14 #[.pointer (some p), .pointer (some q), .int .i64 (-1)] w fun e w' => e = .returned (.int .i64 (jcode (-1) (rws c) (wds c) (rws c) (wds c) L M)) ∧ ∃ F', DS w' p F' c l (jres (-1) (rws c) (wds c) (rws c) (wds c) L M) ∧ Kept F w w' ∧ (∀ q, F' q → F q ∨ w.heap.size ≤ q) := by
  have HS := Lib.hid h
  obtain ⟨hr, hok, hl0, hl1, b, gp, G, rfl, hb, hg, hGb, rfl⟩ := h
  obtain ⟨hr2, hok2, gl0, gl1, b2, gp2, G2, rfl, hb2, hg2, hGb2, rfl⟩ := g
  have hbl := size_of_heap hb
  have hbl2 := size_of_heap hb2
  have c0 := grd_cell hb 0 (v := .int .i64 c.bt) rfl
  have c1 := grd_cell hb 1 (v := .int .i64 c.rw) rfl
  have c2 := grd_cell hb 2 (v := .int .i64 c.wd) rfl
  have c3 := grd_cell hb 3 (v := .int .i64 c.md) rfl
  have c4 := grd_cell hb 4 (v := .int .u64 c.sd) rfl
  have c5 := grd_cell hb 5 (v := .int .i64 l) rfl
  have c6 := grd_cell hb 6 (v := .pointer (some gp)) rfl
  have e0 := grd_cell hb2 0 (v := .int .i64 c.bt) rfl
  have e1 := grd_cell hb2 1 (v := .int .i64 c.rw) rfl
  have e2 := grd_cell hb2 2 (v := .int .i64 c.wd) rfl
  have e3 := grd_cell hb2 3 (v := .int .i64 c.md) rfl
  have e4 := grd_cell hb2 4 (v := .int .u64 c.sd) rfl
  have e5 := grd_cell hb2 5 (v := .int .i64 l) rfl
  have e6 := grd_cell hb2 6 (v := .pointer (some gp2)) rfl
  have HT : Hid (∀ w' G' L', DG w' gp G' (rws c) (wds c) L' → Kept G w w' → (∀ k, G' k → G k ∨ w.heap.size ≤ k) → ∃ F', DS w' ⟨b, 0, none⟩ F' c l L' ∧ Kept (fun k => k = b ∨ G k) w w' ∧ (∀ q, F' q → (q = b ∨ G q) ∨ w.heap.size ≤ q)) := Lib.hid (fun w' G' L' h1 h2 h3 => ds_turn hr hok hl0 hl1 hb hGb h1 h2 h3)
  have CJ := Lib.hid (fun w' hd h1 => djoin_any gp G (rws c) (wds c) L gp2 G2 M (-1) w' hd h1 (by omega))
  have HG := Lib.hid hg
  have HG2 := Lib.hid hg2
  have HY6 : Hid (∀ w', Kept G w w' → w'.cell? ⟨b2, 6, none⟩ = some (.pointer (some gp2))) := Lib.hid (fun w' hk => hk.cell e6 (fun h => hsep b2 (.inr h) (.inl rfl)))
  have hmb : (c.md == 2) = false := by simpa using hm
  obtain ⟨V, hV⟩ : ∃ V, jcode (-1) (rws c) (wds c) (rws c) (wds c) L M = V := ⟨_, rfl⟩
  obtain ⟨R, hR⟩ : ∃ R, jres (-1) (rws c) (wds c) (rws c) (wds c) L M = R := ⟨_, rfl⟩
  rw [hV, hR] at CJ
  rw [hV, hR]
  clear hb hb2 hg hg2 hV hR hsep hm
  go_enter Tryz.func14, Tryz.ntmps14
  go_upto_region 1 with fail
  go_quiet (fail)
  all_goals go_upto_region 5 with fail
  all_goals go_region_held3 (fun w' => w'.cell? ⟨b, 6, none⟩ = some (.pointer (some gp)) ∧ w'.cell? ⟨b2, 6, none⟩ = some (.pointer (some gp2))) (first | (refine ⟨?_, ?_⟩ <;> (first | (with_reducible assumption) | (with_reducible refine cell_up c6 ?_) | (with_reducible refine cell_up e6 ?_)) <;> repeat' (first | (with_reducible exact Below.refl _ _) | (with_reducible assumption) | (with_reducible refine below_over ?_ _ _) | (with_reducible refine Lw.below_alloc ?_ _) | (with_reducible refine Below.drew ?_) | (with_reducible refine below_drewN ?_ _) | (with_reducible refine Below.setCell ?_ ?_ _) | go_size))) (first
    | (go_at_call 39; (with_reducible refine (CJ.out _ (dg_up HG.out (by repeat' (first | (with_reducible exact Below.refl _ _) | (with_reducible assumption) | (with_reducible refine below_over ?_ _ _) | (with_reducible refine Lw.below_alloc ?_ _) | (with_reducible refine Below.drew ?_) | (with_reducible refine below_drewN ?_ _) | (with_reducible refine Below.setCell ?_ ?_ _) | go_size))) (dg_up HG2.out (by repeat' (first | (with_reducible exact Below.refl _ _) | (with_reducible assumption) | (with_reducible refine below_over ?_ _ _) | (with_reducible refine Lw.below_alloc ?_ _) | (with_reducible refine Below.drew ?_) | (with_reducible refine below_drewN ?_ _) | (with_reducible refine Below.setCell ?_ ?_ _) | go_size)))).mono ?_); rintro e w6 ⟨rfl, G6, hp6, hk6, hf6⟩; have HK6 : Hid (Kept G w w6) := Lib.hid ((Kept.of_below (show Below w.heap.size w _ from (by repeat' (first | (with_reducible exact Below.refl _ _) | (with_reducible assumption) | (with_reducible refine below_over ?_ _ _) | (with_reducible refine Lw.below_alloc ?_ _) | (with_reducible refine Below.drew ?_) | (with_reducible refine below_drewN ?_ _) | (with_reducible refine Below.setCell ?_ ?_ _) | go_size)))).trans hk6 (fun q hq h => h)); have HP6 := Lib.hid hp6; have HF6 : Hid (∀ k, G6 k → G k ∨ w.heap.size ≤ k) := Lib.hid (fun k hk => (hf6 k hk).elim .inl (fun h => .inr (Nat.le_trans (Below.size (show Below w.heap.size w _ from (by repeat' (first | (with_reducible exact Below.refl _ _) | (with_reducible assumption) | (with_reducible refine below_over ?_ _ _) | (with_reducible refine Lw.below_alloc ?_ _) | (with_reducible refine Below.drew ?_) | (with_reducible refine below_drewN ?_ _) | (with_reducible refine Below.setCell ?_ ?_ _) | go_size)))) h))); have x6 : w6.cell? ⟨b, 6, none⟩ = some (.pointer (some gp)) := HK6.out.cell c6 hGb; have y6 := HY6.out w6 HK6.out; clear c6 e6; have c6 := x6; have e6 := y6; clear x6 y6 hp6 hk6 hf6))
  all_goals go_wp2
  all_goals go_ret
  all_goals exact ⟨rfl, HT.out _ _ _ HP6.out HK6.out HF6.out⟩
set_option maxRecDepth 100000 in
set_option maxHeartbeats 4000000 in
theorem rsjoin_con (p : Addr) (F : Nat → Prop) (c : Cfg) (l : Int) (L : List (List Int)) (q : Addr) (G' : Nat → Prop) (M : List (List Int)) (w : World) (h : DS w p F c l L) (g : DS w q G' c l M) (hm : c.md = 2) :
    Calls Tryz.prog 14 #[.pointer (some p), .pointer (some q), .int .i64 (-1)] w fun e w' => e = .returned (.int .i64 3) ∧ Below w.heap.size w w' := by
  have HS := Lib.hid h
  obtain ⟨hr, hok, hl0, hl1, b, gp, G, rfl, hb, hg, hGb, rfl⟩ := h
  obtain ⟨hr2, hok2, gl0, gl1, b2, gp2, G2, rfl, hb2, hg2, hGb2, rfl⟩ := g
  have hbl := size_of_heap hb
  have hbl2 := size_of_heap hb2
  have c0 := grd_cell hb 0 (v := .int .i64 c.bt) rfl
  have c1 := grd_cell hb 1 (v := .int .i64 c.rw) rfl
  have c2 := grd_cell hb 2 (v := .int .i64 c.wd) rfl
  have c3 := grd_cell hb 3 (v := .int .i64 c.md) rfl
  have c4 := grd_cell hb 4 (v := .int .u64 c.sd) rfl
  have c5 := grd_cell hb 5 (v := .int .i64 l) rfl
  have c6 := grd_cell hb 6 (v := .pointer (some gp)) rfl
  have e0 := grd_cell hb2 0 (v := .int .i64 c.bt) rfl
  have e1 := grd_cell hb2 1 (v := .int .i64 c.rw) rfl
  have e2 := grd_cell hb2 2 (v := .int .i64 c.wd) rfl
  have e3 := grd_cell hb2 3 (v := .int .i64 c.md) rfl
  have e4 := grd_cell hb2 4 (v := .int .u64 c.sd) rfl
  have e5 := grd_cell hb2 5 (v := .int .i64 l) rfl
  have e6 := grd_cell hb2 6 (v := .pointer (some gp2)) rfl
  have hmb : (c.md == 2) = true := by simp [hm]
  clear hb hb2 hg hg2 hm
  go_enter Tryz.func14, Tryz.ntmps14
  go_upto_region 1 with fail
  go_quiet (fail)
  all_goals go_wp2
  all_goals go_ret
  all_goals exact ⟨rfl, (by repeat' (first | (with_reducible exact Below.refl _ _) | (with_reducible assumption) | (with_reducible refine below_over ?_ _ _) | (with_reducible refine Lw.below_alloc ?_ _) | (with_reducible refine Below.drew ?_) | (with_reducible refine below_drewN ?_ _) | (with_reducible refine Below.setCell ?_ ?_ _) | go_size))⟩
end Go.Proofs.YthecgkgnngpikaaGreat.Sk
