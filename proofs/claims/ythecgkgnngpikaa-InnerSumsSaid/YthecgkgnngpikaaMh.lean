/- Texts that the statements of this seat lean on, put together: SkFed, SkShown, SkPtA, SkOne, InnDef, InnDot, InnCode, InnLawA, InnShr. -/
import Derived.Test.YthecgkgnngpikaaMa
import Derived.Test.YthecgkgnngpikaaMb
import Derived.Test.YthecgkgnngpikaaMc
import Derived.Test.YthecgkgnngpikaaMg
import Derived.Deep.LoopGhost
import Derived.Deep.RegionHeld3
import Derived.Deep.DeepCutAuto
import Derived.Deep.QuietTactic
import Derived.BigQuiet
import Derived.Deep.CutRange
/- fed of layer 10's laws. Printed by wip/gen/skfed2.py. -/
namespace Go.Proofs.Ythecgkgnngpikaa.Sk
open Go Go.RowKit Lw Grd Lin Con Shp
set_option linter.unusedVariables false
set_option linter.unusedSimpArgs false
/-- The updates from the one place to the other, cut. -/
def upsR (c : Cfg) (l : Int) (qs : Ups) (f t : Nat) : Ups := ((qs.take t).drop f).map (cutU c l)
theorem upsR_zero (c : Cfg) (l : Int) (qs : Ups) (f : Nat) : upsR c l qs f f = [] := by
  unfold upsR
  rw [List.drop_of_length_le (by rw [List.length_take]; omega)]
  rfl
theorem upsR_next {c : Cfg} {l : Int} {qs : Ups} {f k : Nat} {q : Int × Int} (hq : qs[k]? = some q) (hf : f ≤ k) : upsR c l qs f (k + 1) = upsR c l qs f k ++ [cutU c l q] := by
  obtain ⟨h1, h2⟩ := List.getElem?_eq_some_iff.1 hq
  unfold upsR
  rw [List.take_succ_eq_append_getElem h1, List.drop_append_of_le_length (by rw [List.length_take]; omega), List.map_append, h2]
  rfl
theorem upsR_len (c : Cfg) (l : Int) (qs : Ups) (f t : Nat) : (upsR c l qs f t).length ≤ t := by
  unfold upsR
  rw [List.length_map, List.length_drop, List.length_take]
  omega
theorem upsR_in {c : Cfg} {l : Int} (hk : 1 ≤ keys c l) (qs : Ups) (f t : Nat) : UpsIn c l (upsR c l qs f t) := upsIn_cut hk _
theorem upsR_end {c : Cfg} {l : Int} {qs : Ups} {f k t : Nat} (hk : k ≤ t) (h : k = t ∨ qs.length ≤ k) : upsR c l qs f k = upsR c l qs f t := by
  unfold upsR
  rcases h with rfl | h
  · rfl
  · rw [List.take_of_length_le h, List.take_of_length_le (by omega)]
theorem skI {w : World} {p : Addr} {F : Nat → Prop} {c : Cfg} {l : Int} {L : List (List Int)} (h : (skT p F c l L).I w) : SK w p F c l L := h
theorem two_boxs (w : World) (e1 e2 : TypeId) (v1 v2 : Array Value) : Have w ((w.alloc (.cells v1 e1)).alloc (.cells v2 e2)) [boxT (w.heap.size + 1) e2 v2, boxT w.heap.size e1 v1] := by
  refine (box_new w e1 v1).push (boxT (w.heap.size + 1) e2 v2) (Lw.below_alloc (Below.refl _ _) _) ?_ (fun k hk => ?_)
  · have h := heap_alloc_new (w.alloc (.cells v1 e1)) (.cells v2 e2)
    rw [World.size_alloc] at h
    exact h
  · rw [World.size_alloc]
    exact Nat.le_of_eq hk.symm
theorem box5 {w : World} {b : Nat} {e : TypeId} {v0 v1 v2 v3 v4 : Value} (h : (boxT b e #[v0, v1, v2, v3, v4]).I w) : w.cell? ⟨b, 0, none⟩ = some v0 ∧ w.cell? ⟨b, 1, none⟩ = some v1 ∧ w.cell? ⟨b, 2, none⟩ = some v2 ∧ w.cell? ⟨b, 3, none⟩ = some v3 ∧ w.cell? ⟨b, 4, none⟩ = some v4 :=
  ⟨box_cell h rfl, box_cell h rfl, box_cell h rfl, box_cell h rfl, box_cell h rfl⟩
theorem box7 {w : World} {b : Nat} {e : TypeId} {v0 v1 v2 v3 v4 v5 v6 : Value} (h : (boxT b e #[v0, v1, v2, v3, v4, v5, v6]).I w) : w.cell? ⟨b, 0, none⟩ = some v0 ∧ w.cell? ⟨b, 1, none⟩ = some v1 ∧ w.cell? ⟨b, 2, none⟩ = some v2 ∧ w.cell? ⟨b, 3, none⟩ = some v3 ∧ w.cell? ⟨b, 4, none⟩ = some v4 ∧ w.cell? ⟨b, 5, none⟩ = some v5 ∧ w.cell? ⟨b, 6, none⟩ = some v6 :=
  ⟨box_cell h rfl, box_cell h rfl, box_cell h rfl, box_cell h rfl, box_cell h rfl, box_cell h rfl, box_cell h rfl⟩
theorem boxs_frozen {w : World} {b : Nat} {e : TypeId} {vs : Array Value} (h : (boxT b e vs).I w) (i : Nat) : w.frozen? ⟨b, i, none⟩ = false := by
  have h1 : w.heap[b]? = some (.cells vs e (0, 0)) := h
  simp [World.frozen?, h1]
theorem boxs_set {w : World} {b : Nat} {e : TypeId} {vs : Array Value} (h : (boxT b e vs).I w) (i : Nat) (v : Value) : (boxT b e (vs.setIfInBounds i v)).I (w.setCell ⟨b, i, none⟩ v) := by
  have h1 : w.heap[b]? = some (.cells vs e (0, 0)) := h
  show (w.setCell ⟨b, i, none⟩ v).heap[b]? = _
  simp [World.setCell, Array.getElem?_modify, h1]
theorem store5 {w : World} {b : Nat} {e : TypeId} {u0 u1 u2 u3 u4 : Value} (h : (boxT b e #[u0, u1, u2, u3, u4]).I w) (v0 v1 v2 v3 v4 : Value) :
    (boxT b e #[v0, v1, v2, v3, v4]).I ((((((w.setCell ⟨b, 0, none⟩ v0).setCell ⟨b, 1, none⟩ v1).setCell ⟨b, 2, none⟩ v2).setCell ⟨b, 3, none⟩ v3).setCell ⟨b, 4, none⟩ v4).drew) := by
  have q := boxs_set (boxs_set (boxs_set (boxs_set (boxs_set h 0 v0) 1 v1) 2 v2) 3 v3) 4 v4
  exact (boxT b e #[v0, v1, v2, v3, v4]).keep _ _ (fun _ => False) q (Kept.of_below (Below.drew (Below.refl _ _))) (fun _ _ h => h)
theorem store_have {w0 w w' : World} {t0 t1 : Thing} {b : Nat} {e : TypeId} {vs : Array Value} {ts : List Thing} (h : Have w0 w (t0 :: t1 :: boxT b e vs :: ts)) (hk : Kept (fun k => k = b) w w') : Have w0 w' [t0] := by
  have hb : Below w0.heap.size w0 w' := hk.low h.below h.below.size (fun q hq => by subst hq; exact h.f2 q rfl)
  have h2 : Have w0 w [t0] := ⟨h.i0, h.f0, fun u hu => by simp at hu, h.below⟩
  exact Have.keep hk hb h2 (fun t ht k h3 h4 => by simp at ht; subst ht; exact h.ap02 k h3 h4)
/-- The config of a Play of layer 10, of a mode. -/
def cfgP (x : Cfg) (md : Int) : Cfg := { anyC x 8 9 with md := md }
theorem cfgP_right (x : Cfg) (md : Int) (h0 : 1 ≤ md) (h1 : md ≤ 3) : IsRight (cfgP x md) ∧ (cfgP x md).bt ≤ 8 := by
  have h := any_right x 8 9 (by omega) (by omega) (by omega) (by omega)
  refine ⟨⟨h.1, h.2.1, h.2.2.1, h.2.2.2.1, h.2.2.2.2.1, h.2.2.2.2.2.1, h0, h1⟩, ?_⟩
  show 1 + x.bt % 65536 % 8 ≤ 8
  omega
theorem cfgP_ok (x : Cfg) (hx : x.Ok) (md : Int) (h0 : 1 ≤ md) (h1 : md ≤ 3) : (cfgP x md).Ok := by
  have h := any_ok x hx 8 9 (by omega) (by omega) (by omega) (by omega)
  exact ⟨h.b0, h.b1, h.r0, h.r1, h.w0, h.w1, by show -9223372036854775808 ≤ md; omega, by show md ≤ 9223372036854775807; omega, h.s0, h.s1⟩
set_option maxRecDepth 100000 in
set_option maxHeartbeats 8000000 in
theorem fed_any (x : Cfg) (lv : Int) (A : Option Addr) (n0 k0 : Nat) (qs : Ups) (md f0 t0 : Int) (f t : Nat) (c : Cfg) (l : Int) (w : World) (hx : x.Ok) (hlv : -9223372036854775808 ≤ lv ∧ lv ≤ 9223372036854775807) (hq : UpdV w A n0 k0 qs) (hm0 : 1 ≤ md) (hm1 : md ≤ 3) (hf0 : f0 = f) (ht0 : t0 = t) (hft : f ≤ t) (ht : t ≤ 60) (hC : cfgP x md = c) (hl : lv % 65536 % (c.bt + 1) = l) :
    Calls Try.prog 29 #[.agg #[.int .i64 x.bt, .int .i64 x.rw, .int .i64 x.wd, .int .i64 x.md, .int .u64 x.sd, .int .i64 lv, .slice A n0 k0], .int .i64 md, .int .i64 f0, .int .i64 t0] w fun e w' => ∃ (p : Addr) (F : Nat → Prop), e = .returned (.tuple #[.pointer (some p), .agg #[.int .i64 c.bt, .int .i64 c.rw, .int .i64 c.wd, .int .i64 c.md, .int .u64 c.sd], .int .i64 l]) ∧ Have w w' [skT p F c l (cells c l (upsR c l qs f t))] := by
  subst hf0 ht0
  have hr := cfgP_right x md hm0 hm1
  have hco := cfgP_ok x hx md hm0 hm1
  rw [hC] at hr hco
  obtain ⟨C, hCC⟩ : ∃ C, anyC x 8 9 = C := ⟨_, rfl⟩
  have h1 : C.bt = c.bt ∧ C.rw = c.rw ∧ C.wd = c.wd ∧ C.sd = c.sd ∧ c.md = md := by rw [← hC, ← hCC]; exact ⟨rfl, rfl, rfl, rfl, rfl⟩
  have CA := Lib.hid (fun w => rany_at x 8 9 C w hx (by omega) (by omega) (by omega) (by omega) hCC)
  rw [h1.1, h1.2.1, h1.2.2.1, h1.2.2.2.1] at CA
  have hmd := h1.2.2.2.2
  obtain ⟨X, Y, a1, b1, c1, dd1, ee1, ff1⟩ := level_of lv (c.bt + 1) (by have := hr.1.1; omega) (by omega)
  have hYl : Y = l := by
    rw [← hl, ← dd1, ← a1, and16i, Int.tmod_eq_emod_of_nonneg (by omega)]
  subst hYl
  have hbt := hr.1.1
  have hbt8 := hr.2
  have hkeys : 1 ≤ keys c Y := keys_pos.2 ⟨hr.1, by omega, by omega⟩
  have CNW := Lib.hid (fun w => snew_yes c Y w hco (by omega) (by omega) hkeys)
  have HQ := Lib.hid hq
  have HL := Lib.hid hq.len
  have hnc := hq.nc
  have hcm := hq.cm
  unfold maxLen at hcm
  have HMD := Lib.hid hmd
  have HR := Lib.hid hr.1
  have HKY := Lib.hid hkeys
  have CC0 := Lib.hid (fun w k d h0 h1 h2 h3 => cut_any c Y k d w hco (by omega) (by omega) h0 h1 h2 h3 hkeys)
  have HBX : Hid (Have w ((w.alloc (.cells #[.int .i64 x.bt, .int .i64 x.rw, .int .i64 x.wd, .int .i64 x.md, .int .u64 x.sd, .int .i64 lv, .slice A n0 k0] 64)).alloc (.cells #[.int .i64 0, .int .i64 0, .int .i64 0, .int .i64 0, .int .u64 0] 31)) [boxT (w.heap.size + 1) 31 #[.int .i64 0, .int .i64 0, .int .i64 0, .int .i64 0, .int .u64 0], boxT w.heap.size 64 #[.int .i64 x.bt, .int .i64 x.rw, .int .i64 x.wd, .int .i64 x.md, .int .u64 x.sd, .int .i64 lv, .slice A n0 k0]]) := Lib.hid (two_boxs w _ _ _ _)
  rw [hmd] at CNW CC0 ⊢
  have hw1 : IntKind.i64.wrap (c.bt + 1) = c.bt + 1 := IntWalk.i64_in _ ⟨by omega, by omega⟩
  have hbn : ¬ c.bt + 1 = 0 := by omega
  clear hC hCC h1 hmd hq hr hkeys hco hx hl
  go_enter Try.func29, Try.ntmps29
  go_wp2_with (first
    | (go_at_call 14; (with_reducible refine (CNW.out _).mono ?_); rintro e w4 ⟨p, F, rfl, hsk, hfr, hb⟩; have HV4 := Lib.hid (HV2.out.push (skT p F c Y (zerosL (rws c) (wds c))) hb hsk hfr); clear hsk hfr hb)
    | (go_at_call 13; (with_reducible refine (CA.out _).mono ?_); rintro e w1 ⟨rfl, hb⟩; have HV1 := Lib.hid (HBX.out.up hb); obtain ⟨x0, x1, x2, x3, x4, x5, x6⟩ := box7 HV1.out.i1; have hl0 := box_lt HV1.out.i1; have hl1 := box_lt HV1.out.i0; have HV2 := Lib.hid (HV1.out.push (boxT w1.heap.size 31 #[.int .i64 c.bt, .int .i64 c.rw, .int .i64 c.wd, .int .i64 md, .int .u64 c.sd]) (Lw.below_alloc (Below.refl _ _) _) (heap_alloc_new w1 _) (fun k hk => Nat.le_of_eq hk.symm)); clear hb))
  obtain ⟨g1, hg1⟩ : ∃ g1, w1.heap.size = g1 := ⟨_, rfl⟩
  rw [hg1] at HV4 ⊢
  clear hg1 hl0 hl1 x0 x1 x2 x3 x4 x5 x6
  go_loopw [15] (fun iv wr => ∃ (k : Nat) (F : Nat → Prop), f ≤ k ∧ k ≤ t ∧ (k ≤ n0 ∨ k = f) ∧ iv = .int .i64 k ∧ Have w wr [skT p F c Y (cells c Y (upsR c Y qs f k)), boxT g1 31 #[.int .i64 c.bt, .int .i64 c.rw, .int .i64 c.wd, .int .i64 md, .int .u64 c.sd], boxT (w.heap.size + 1) 31 #[.int .i64 0, .int .i64 0, .int .i64 0, .int .i64 0, .int .u64 0], boxT w.heap.size 64 #[.int .i64 x.bt, .int .i64 x.rw, .int .i64 x.wd, .int .i64 x.md, .int .u64 x.sd, .int .i64 lv, .slice A n0 k0]]) (fun iv _ => t - (intOf iv).toNat)
  case atStart => exact ⟨f, F, Nat.le_refl _, hft, .inr rfl, rfl, by rw [upsR_zero, cells_nil]; exact HV4.out⟩
  case round =>
    obtain ⟨k, F, hk0, hk1, hk2, rfl, hv⟩ := hrel
    have HVr := Lib.hid hv
    have hwb := hv.below
    have HWB := Lib.hid hwb
    clear hv
    obtain ⟨x0, x1, x2, x3, x4, x5, c0⟩ := box7 HVr.out.i3
    by_cases hlt : k < n0 ∧ k < t
    · obtain ⟨hj1, hj2⟩ := hlt
      obtain ⟨q, hq1⟩ : ∃ q, qs[k]? = some q := ⟨_, List.getElem?_eq_getElem (by rw [HL.out]; omega)⟩
      have hnx := upsR_next (c := c) (l := Y) hq1 hk0
      have hst := up_ok HR.out (upsR_in HKY.out qs f k) (by have := upsR_len c Y qs f k; omega) (upsIn_cut HKY.out [q])
      have hcu := cutU_ok HKY.out q
      obtain ⟨a, g, o, rfl, hadd, d1w, d2w, kb, db⟩ := HQ.out.at hq1
      obtain ⟨qk, qd⟩ := q
      simp only at d1w d2w kb db
      have d1 := cell_up d1w hwb
      have d2 := cell_up d2w hwb
      obtain ⟨e1, e2, e3, e4, e5⟩ := box5 HVr.out.i1
      have CC := Lib.hid (fun w => CC0.out w qk qd kb.1 kb.2 db.1 db.2)
      obtain ⟨us, hus⟩ : ∃ us, cells c Y (upsR c Y qs f k) = us := ⟨_, rfl⟩
      obtain ⟨us2, hus2⟩ : ∃ us2, cells c Y (upsR c Y qs f (k + 1)) = us2 := ⟨_, rfl⟩
      rw [hus] at HVr hst
      rw [hnx] at hus2
      rw [hus2] at hst
      have HNX : Hid (cells c Y (upsR c Y qs f (k + 1)) = us2) := Lib.hid (by rw [hnx]; exact hus2)
      obtain ⟨U, hU⟩ : ∃ U, (cutU c Y (qk, qd)).1 = U := ⟨_, rfl⟩
      obtain ⟨D, hD⟩ : ∃ D, (cutU c Y (qk, qd)).2 = D := ⟨_, rfl⟩
      rw [hU, hD] at CC hst hcu
      have HST := Lib.hid hst
      have hkk := keys_bd c Y
      have hub : 0 ≤ U ∧ U ≤ 18446744073709551615 := ⟨hcu.1, by have := hcu.2.1; omega⟩
      have hdb : -9223372036854775808 ≤ D ∧ D ≤ 9223372036854775807 := ⟨by have := hcu.2.2.1; omega, by have := hcu.2.2.2.1; omega⟩
      clear hq1 hnx hst hcu hus hus2 hU hD d1w d2w hwb
      go_upto_region 10 with fail
      go_region_held3 (fun w' => w'.cell? ⟨g1, 0, none⟩ = some (.int .i64 c.bt) ∧ w'.cell? ⟨g1, 1, none⟩ = some (.int .i64 c.rw) ∧ w'.cell? ⟨g1, 2, none⟩ = some (.int .i64 c.wd) ∧ w'.cell? ⟨g1, 3, none⟩ = some (.int .i64 md) ∧ w'.cell? ⟨g1, 4, none⟩ = some (.int .u64 c.sd) ∧ w'.cell? ⟨w.heap.size, 6, none⟩ = some (.slice (some a) n0 k0) ∧ w'.cell? ⟨g, o, none⟩ = some (.int .u64 qk) ∧ w'.cell? ⟨g, o + 1, none⟩ = some (.int .i64 qd)) (first | (refine ⟨?_, ?_, ?_, ?_, ?_, ?_, ?_, ?_⟩ <;> (first | (with_reducible assumption) | (with_reducible refine cell_up e1 ?_) | (with_reducible refine cell_up e2 ?_) | (with_reducible refine cell_up e3 ?_) | (with_reducible refine cell_up e4 ?_) | (with_reducible refine cell_up e5 ?_) | (with_reducible refine cell_up c0 ?_) | (with_reducible refine cell_up d1 ?_) | (with_reducible refine cell_up d2 ?_)) <;> repeat' (first | (with_reducible exact Below.refl _ _) | (with_reducible assumption) | (with_reducible refine below_over ?_ _ _) | (with_reducible refine Lw.below_alloc ?_ _) | (with_reducible refine Below.drew ?_) | (with_reducible refine below_drewN ?_ _) | (with_reducible refine Below.setCell ?_ ?_ _) | go_size))) (first | (go_at_call 30; (with_reducible refine (CC.out _).mono ?_); rintro e w' ⟨rfl, hb⟩; obtain ⟨bs, dd, rfl⟩ := below_grow hb; clear hb))
      all_goals go_wp2_with (go_at_call 16; (with_reducible refine (supd_any p F c Y us U D _ (skI (HVr.out.up (by repeat' (first | (with_reducible exact Below.refl _ _) | (with_reducible assumption) | (with_reducible refine below_over ?_ _ _) | (with_reducible refine Lw.below_alloc ?_ _) | (with_reducible refine Below.drew ?_) | (with_reducible refine below_drewN ?_ _) | (with_reducible refine Below.setCell ?_ ?_ _) | go_size))).i0) hub.1 hub.2 hdb.1 hdb.2).mono ?_); rintro e w8 ⟨he, F8, hnp, hnk, hnf⟩; rw [HST.out.1] at he; subst he; rw [HST.out.2] at hnp; have HV8 := Lib.hid ((HVr.out.up (by repeat' (first | (with_reducible exact Below.refl _ _) | (with_reducible assumption) | (with_reducible refine below_over ?_ _ _) | (with_reducible refine Lw.below_alloc ?_ _) | (with_reducible refine Below.drew ?_) | (with_reducible refine below_drewN ?_ _) | (with_reducible refine Below.setCell ?_ ?_ _) | go_size))).turn_0 (skT p F8 c Y us2) hnp hnk hnf); clear hnp hnk hnf)
      all_goals go_roundw
      all_goals first
        | exact ⟨k + 1, F8, by omega, by omega, .inl (by omega), by go_num, by rw [HNX.out]; exact HV8.out⟩
        | (simp [intOf]; omega)
    · have hend : upsR c Y qs f k = upsR c Y qs f t := by
        rcases hk2 with h9 | h9
        · exact upsR_end hk1 (by rw [HL.out]; omega)
        · subst h9
          exact upsR_end hk1 (by rw [HL.out]; omega)
      rw [hend] at HVr
      have HVE := Lib.hid HVr.out
      obtain ⟨e1, e2, e3, e4, e5⟩ := box5 HVr.out.i1
      obtain ⟨y1, y2, y3, y4, y5⟩ := box5 HVr.out.i2
      have z1 := boxs_frozen HVr.out.i2 0
      have z2 := boxs_frozen HVr.out.i2 1
      have z3 := boxs_frozen HVr.out.i2 2
      have z4 := boxs_frozen HVr.out.i2 3
      have z5 := boxs_frozen HVr.out.i2 4
      clear hend hk2
      by_cases hkn : k < n0
      · have hkt : t ≤ k := by omega
        clear hlt
        go_wp2
        have h5 := box5 (store5 HVE.out.i2 (.int .i64 c.bt) (.int .i64 c.rw) (.int .i64 c.wd) (.int .i64 md) (.int .u64 c.sd))
        have hkp := store_have (w' := (((((wr.setCell ⟨w.heap.size + 1, 0, none⟩ (.int .i64 c.bt)).setCell ⟨w.heap.size + 1, 1, none⟩ (.int .i64 c.rw)).setCell ⟨w.heap.size + 1, 2, none⟩ (.int .i64 c.wd)).setCell ⟨w.heap.size + 1, 3, none⟩ (.int .i64 md)).setCell ⟨w.heap.size + 1, 4, none⟩ (.int .u64 c.sd)).drew) HVE.out (by repeat' (first | (with_reducible exact Kept.refl _ _) | (with_reducible refine Kept.drew ?_) | (refine Kept.set (F := fun k => k = w.heap.size + 1) ?_ (.inl rfl) _ _)))
        go_region
        obtain ⟨wz, hwz⟩ : ∃ wz, wz = (((((wr.setCell ⟨w.heap.size + 1, 0, none⟩ (.int .i64 c.bt)).setCell ⟨w.heap.size + 1, 1, none⟩ (.int .i64 c.rw)).setCell ⟨w.heap.size + 1, 2, none⟩ (.int .i64 c.wd)).setCell ⟨w.heap.size + 1, 3, none⟩ (.int .i64 md)).setCell ⟨w.heap.size + 1, 4, none⟩ (.int .u64 c.sd)).drew := ⟨_, rfl⟩
        rw [← hwz] at h5 hkp ⊢
        have HKP := Lib.hid hkp
        obtain ⟨r1, r2, r3, r4, r5⟩ := h5
        clear hwz hkp e1 e2 e3 e4 e5 y1 y2 y3 y4 y5 z1 z2 z3 z4 z5
        go_wp2
        refine bodyPost_ret (v := .tuple #[.pointer (some p), .agg #[.int .i64 c.bt, .int .i64 c.rw, .int .i64 c.wd, .int .i64 md, .int .u64 c.sd], .int .i64 Y]) (by simp [results, Try.results29, go_sem, r1, r2, r3, r4, r5]) rfl ?_
        exact ⟨p, F, rfl, HKP.out⟩
      · have hkn2 : n0 ≤ k := by omega
        clear hlt hkn
        go_wp2
        have h5 := box5 (store5 HVE.out.i2 (.int .i64 c.bt) (.int .i64 c.rw) (.int .i64 c.wd) (.int .i64 md) (.int .u64 c.sd))
        have hkp := store_have (w' := (((((wr.setCell ⟨w.heap.size + 1, 0, none⟩ (.int .i64 c.bt)).setCell ⟨w.heap.size + 1, 1, none⟩ (.int .i64 c.rw)).setCell ⟨w.heap.size + 1, 2, none⟩ (.int .i64 c.wd)).setCell ⟨w.heap.size + 1, 3, none⟩ (.int .i64 md)).setCell ⟨w.heap.size + 1, 4, none⟩ (.int .u64 c.sd)).drew) HVE.out (by repeat' (first | (with_reducible exact Kept.refl _ _) | (with_reducible refine Kept.drew ?_) | (refine Kept.set (F := fun k => k = w.heap.size + 1) ?_ (.inl rfl) _ _)))
        go_region
        obtain ⟨wz, hwz⟩ : ∃ wz, wz = (((((wr.setCell ⟨w.heap.size + 1, 0, none⟩ (.int .i64 c.bt)).setCell ⟨w.heap.size + 1, 1, none⟩ (.int .i64 c.rw)).setCell ⟨w.heap.size + 1, 2, none⟩ (.int .i64 c.wd)).setCell ⟨w.heap.size + 1, 3, none⟩ (.int .i64 md)).setCell ⟨w.heap.size + 1, 4, none⟩ (.int .u64 c.sd)).drew := ⟨_, rfl⟩
        rw [← hwz] at h5 hkp ⊢
        have HKP := Lib.hid hkp
        obtain ⟨r1, r2, r3, r4, r5⟩ := h5
        clear hwz hkp e1 e2 e3 e4 e5 y1 y2 y3 y4 y5 z1 z2 z3 z4 z5
        go_wp2
        refine bodyPost_ret (v := .tuple #[.pointer (some p), .agg #[.int .i64 c.bt, .int .i64 c.rw, .int .i64 c.wd, .int .i64 md, .int .u64 c.sd], .int .i64 Y]) (by simp [results, Try.results29, go_sem, r1, r2, r3, r4, r5]) rfl ?_
        exact ⟨p, F, rfl, HKP.out⟩
end Go.Proofs.Ythecgkgnngpikaa.Sk
/- shown of layer 10's laws. Printed by wip/gen/skshown.py. -/
namespace Go.Proofs.Ythecgkgnngpikaa.Sk
open Go Go.RowKit Lw Grd Lin Con Shp
set_option linter.unusedVariables false
set_option linter.unusedSimpArgs false
def sA : Cfg := ⟨3, 2, 1, 1, 0⟩
theorem sA_ok : sA.Ok := by constructor <;> decide
theorem sA_r : IsRight sA := by decide
theorem sA_rw : rws sA = 2 := rfl
theorem sA_wd : wds sA = 1 := rfl
theorem sA_k0 : keys sA 0 = 8 := by decide
theorem sA_k4 : keys sA 4 = 0 := by decide
theorem sA_cols {k : Int} (h1 : k < 8) : cols sA 0 k = [0, 0] := by
  have h : ∀ r, col sA 0 k r = 0 := fun r => by
    have h2 := col_range sA_r 0 k r
    have e : sA.wd = 1 := rfl
    omega
  rw [cols_yes (by rw [sA_k0]; exact h1)]
  show (List.range 2).map (col sA 0 k) = [0, 0]
  simp [List.range, List.range.loop, h]
def sB : List (List Int) := [[5], [5]]
def sD : List (List Int) := [[7], [7]]
theorem u1 : upCode sA 0 (zerosL 2 1) 0 5 = 0 ∧ upRes sA 0 (zerosL 2 1) 0 5 = sB := by
  unfold upCode upRes
  rw [sA_cols (by omega), sA_k0, if_neg (by omega), if_neg (by decide), if_neg (by omega), if_neg (by decide)]
  decide
theorem u2 : upCode sA 0 sB 1 2 = 0 ∧ upRes sA 0 sB 1 2 = sD := by
  unfold upCode upRes
  rw [sA_cols (by omega), sA_k0, if_neg (by omega), if_neg (by decide), if_neg (by omega), if_neg (by decide)]
  decide
theorem u3 : upCode sA 0 sD 8 2 = 2 ∧ upRes sA 0 sD 8 2 = sD := by
  unfold upCode upRes
  rw [sA_k0, if_pos (by omega), if_pos (by omega)]
  exact ⟨rfl, rfl⟩
theorem p1 : ptVal sA 0 sD 0 = 7 ∧ ptCode sA 0 0 = 0 := by
  unfold ptVal ptCode
  rw [sA_cols (by omega), sA_k0, if_neg (by omega), if_neg (by decide), if_neg (by omega)]
  refine ⟨?_, rfl⟩
  unfold lea
  rw [(Ord.kv_yes (k := 0) (by omega) (by decide)).1]
  exact (Ord.least_eq _ 7 (by decide) (by decide)).symm
theorem n_yes (w : World) : Calls Try.prog 14 #[.agg #[.int .i64 3, .int .i64 2, .int .i64 1, .int .i64 1, .int .u64 0], .int .i64 0] w fun e w' => ∃ (p : Addr) (F : Nat → Prop), e = .returned (.tuple #[.pointer (some p), .int .i64 0]) ∧ SK w' p F sA 0 (zerosL 2 1) ∧ (∀ k, F k → w.heap.size ≤ k) ∧ Below w.heap.size w w' := snew_yes sA 0 w sA_ok (by omega) (by omega) (by rw [sA_k0]; omega)
theorem n_no (w : World) : Calls Try.prog 14 #[.agg #[.int .i64 3, .int .i64 2, .int .i64 1, .int .i64 1, .int .u64 0], .int .i64 4] w fun e w' => e = .returned (.tuple #[.pointer none, .int .i64 1]) ∧ Below w.heap.size w w' := snew_no sA 4 w sA_ok (by omega) (by omega) sA_k4
theorem c_any (p : Addr) (F : Nat → Prop) (w : World) (h : SK w p F sA 0 sD) : Calls Try.prog 48 #[.pointer (some p)] w fun e w' => e = .returned (.agg #[.int .i64 3, .int .i64 2, .int .i64 1, .int .i64 1, .int .u64 0]) ∧ Below w.heap.size w w' := sconfig_any p F sA 0 sD w h
theorem l_any (p : Addr) (F : Nat → Prop) (w : World) (h : SK w p F sA 0 sD) : Calls Try.prog 49 #[.pointer (some p)] w fun e w' => ∃ (g : Nat) (cap : Nat), e = .returned (.slice (some ⟨g, 0, none⟩) 2 cap) ∧ w'.cell? ⟨g, 1, none⟩ = some (.int .i64 7) ∧ (2 : Int) ≤ cap ∧ Below w.heap.size w w' :=
  (scells_mid p F sA 0 sD w h).mono fun e w' ⟨g, cap, e1, h1, _, h2, _, h5⟩ => ⟨g, cap, e1, (h1.cell (j := 1) (v := 7) rfl), by have : 2 ≤ cap := h2; omega, h5⟩
theorem up_any (p : Addr) (F : Nat → Prop) (L M : List (List Int)) (k d x : Int) (w : World) (h : SK w p F sA 0 L) (k0 : 0 ≤ k) (k1 : k ≤ 18446744073709551615) (d0 : -9223372036854775808 ≤ d) (d1 : d ≤ 9223372036854775807) (hu : upCode sA 0 L k d = x ∧ upRes sA 0 L k d = M) :
    Calls Try.prog 16 #[.pointer (some p), .int .u64 k, .int .i64 d] w fun e w' => e = .returned (.int .i64 x) ∧ ∃ F', SK w' p F' sA 0 M ∧ Kept F w w' ∧ (∀ q, F' q → F q ∨ w.heap.size ≤ q) := by
  have C := supd_any p F sA 0 L k d w h k0 k1 d0 d1
  rw [hu.1, hu.2] at C
  exact C
theorem pt_any (p : Addr) (F : Nat → Prop) (w : World) (h : SK w p F sA 0 sD) : Calls Try.prog 32 #[.pointer (some p), .int .u64 0] w fun e w' => e = .returned (.tuple #[.int .i64 7, .int .i64 0]) ∧ Below w.heap.size w w' := by
  have C := spoint_any p F sA 0 sD 0 w h (by omega) (by omega)
  rw [p1.1, p1.2] at C
  exact C
set_option maxRecDepth 100000 in
set_option maxHeartbeats 4000000 in
theorem shown_any (w : World) : Calls Try.prog 28 #[] w fun e w' => e = .returned (.bool true) ∧ Below w.heap.size w w' := by
  have HV0 : Hid (Have w w []) := Lib.hid (Have.nil w)
  have hfd : ∀ w : World, (Instr.field 31 (.agg #[.int .i64 3, .int .i64 2, .int .i64 1, .int .i64 1, .int .u64 0]) 1).run Try.prog w = .ok (.int .i64 2) w := fun _ => by kernel_rfl
  go_enter Try.func28, Try.ntmps28
  go_wp2_with (first
    | (go_at_call 48; (with_reducible refine (c_any p F4 _ (skI HV8.out.i0)).mono ?_); rintro e w9 ⟨rfl, hb⟩; have HV9 := Lib.hid (HV8.out.up hb); clear hb)
    | (go_at_call 57; (with_reducible refine (slevel_any p F4 sA 0 sD _ (skI HV7.out.i0)).mono ?_); rintro e w8 ⟨rfl, hb⟩; have HV8 := Lib.hid (HV7.out.up hb); clear hb)
    | (go_at_call 49; (with_reducible refine (l_any p F4 _ (skI HV6.out.i0)).mono ?_); rintro e w7 ⟨a7, cap7, rfl, c7, hc7, hb⟩; have HV7 := Lib.hid (HV6.out.up hb); clear hb)
    | (go_at_call 32; (with_reducible refine (pt_any p F4 _ (skI HV5.out.i0)).mono ?_); rintro e w6 ⟨rfl, hb⟩; have HV6 := Lib.hid (HV5.out.up hb); clear hb)
    | (go_at_call 16; (with_reducible refine (up_any p F3 sD sD 8 2 2 _ (skI HV4.out.i0) (by omega) (by omega) (by omega) (by omega) u3).mono ?_); rintro e w5 ⟨rfl, F4, h1, h2, h3⟩; have HV5 := Lib.hid (HV4.out.turn_0 (skT p F4 sA 0 sD) h1 h2 h3); clear h1 h2 h3)
    | (go_at_call 16; (with_reducible refine (up_any p F2 sB sD 1 2 0 _ (skI HV3.out.i0) (by omega) (by omega) (by omega) (by omega) u2).mono ?_); rintro e w4 ⟨rfl, F3, h1, h2, h3⟩; have HV4 := Lib.hid (HV3.out.turn_0 (skT p F3 sA 0 sD) h1 h2 h3); clear h1 h2 h3)
    | (go_at_call 16; (with_reducible refine (up_any p F1 (zerosL 2 1) sB 0 5 0 _ (skI HV2.out.i0) (by omega) (by omega) (by omega) (by omega) u1).mono ?_); rintro e w3 ⟨rfl, F2, h1, h2, h3⟩; have HV3 := Lib.hid (HV2.out.turn_0 (skT p F2 sA 0 sB) h1 h2 h3); clear h1 h2 h3)
    | (go_at_call 14; (with_reducible refine (n_no _).mono ?_); rintro e w2 ⟨rfl, hb⟩; have HV2 := Lib.hid (HV1.out.up hb); clear hb)
    | (go_at_call 14; (with_reducible refine (n_yes _).mono ?_); rintro e w1 ⟨p, F1, rfl, h1, h2, hb⟩; have HV1 := Lib.hid (HV0.out.push (skT p F1 sA 0 (zerosL 2 1)) hb h1 h2); clear h1 h2 hb))
  all_goals go_ret
  all_goals exact ⟨ret_bs (by first | rfl | (simp [*]; done)), HV9.out.below⟩
end Go.Proofs.Ythecgkgnngpikaa.Sk
/- What SketchPoint and SketchMedian lean on. Printed by wip/gen/skpoint.py. -/
namespace Go.Proofs.Ythecgkgnngpikaa.Sk
open Go Go.RowKit Lw Grd Lin Con Shp
set_option linter.unusedVariables false
set_option linter.unusedSimpArgs false
theorem upsA_R (c : Cfg) (l : Int) (qs : Ups) : upsA c l qs = upsR c l qs 0 60 := by unfold upsA upsR; rw [List.drop_zero]
end Go.Proofs.Ythecgkgnngpikaa.Sk
/- One update of a fresh sketch; what it is merged into changes; rows of numbers as things. Printed by wip/gen/skunl.py. -/
namespace Go.Proofs.Ythecgkgnngpikaa.Sk
open Go Go.RowKit Lw Grd Lin Con Shp
set_option linter.unusedVariables false
set_option linter.unusedSimpArgs false
/-- A row of numbers in a block of its own. -/
def midT (g : Nat) (zs : List Int) : Thing where
  I := fun w => Ord.Mid w g 0 zs
  F := fun k => k = g
  keep := fun w w' H h hk hf => h.keep hk (hf g rfl)
  lt := fun w h k hk => by subst hk; exact h.lt
theorem midI {w : World} {g : Nat} {zs : List Int} (h : (midT g zs).I w) : Ord.Mid w g 0 zs := h
theorem one_in {c : Cfg} {l d : Int} (hk : 1 ≤ keys c l) (d0 : 0 ≤ d) (d1 : d ≤ 1099511627776) : UpsIn c l [(0, d)] := by
  refine ⟨fun u hu => ?_, fun _ u hu => ?_⟩
  · simp at hu
    subst hu
    exact ⟨by omega, by show (0 : Int) < keys c l; omega, by show -1099511627776 ≤ d; omega, d1⟩
  · simp at hu
    subst hu
    exact d0
theorem one_up {c : Cfg} {l d : Int} (hr : IsRight c) (hk : 1 ≤ keys c l) (d0 : 0 ≤ d) (d1 : d ≤ 1099511627776) : upCode c l (zerosL (rws c) (wds c)) 0 d = 0 ∧ upRes c l (zerosL (rws c) (wds c)) 0 d = cells c l [(0, d)] := by
  have hn : UpsIn c l [] := ⟨fun u hu => by simp at hu, fun _ u hu => by simp at hu⟩
  have h := up_ok hr hn (by simp) (one_in hk d0 d1)
  rw [cells_nil] at h
  exact h
theorem one_least {c : Cfg} {l d : Int} (hk : 1 ≤ keys c l) (d0 : 0 ≤ d) (d1 : d ≤ 1099511627776) {q : Nat} (hq : col c l 0 0 = q) : d ≤ cel (cells c l [(0, d)]) 0 q := by
  have hin := one_in hk d0 d1
  have hr := (keys_pos.1 hk).1
  have h0 := (rws_bd hr).1
  have hkk : (0 : Int) < keys c l := by omega
  have hok := opsU_ok hin.1
  have hm := cols_meet (c := c) (l := l) (k := 0) (Int.le_refl _) hkk
  by_cases h2 : c.md = 2
  · have hro := rose_all (rose_zero (rws c) (wds c)) hok (plus_of hin h2)
    rw [List.nil_append] at hro
    have hown : Lin.own (cols c l 0) (opsU c l [(0, d)]) = d := by simp [opsU, Lin.own]
    have hcr := col_range hr l 0 0
    have hwd := wds_bd hr
    have ho := hro.ow (cols c l 0) hm 0 q (by omega) (by omega) (by rw [cols_at hkk (by omega), hq])
    rw [cells_con h2]
    omega
  · rw [cells_lin h2]
    have hsz := chAll_sz (sz_zeros (rws c) (wds c)) hok
    have hn := named_cel hsz hm (r := 0) (v := q) (by omega) (by rw [cols_at hkk (by omega), hq])
    have hk2 := named_key hin.1 (Int.le_refl _) hkk (r := 0) (by omega)
    rw [hn] at hk2
    injection hk2 with hk2
    rw [hk2]
    simp [hasK, othK]
theorem cel_sum {m n : Nat} {L M : List (List Int)} (hL : Sz m n L) (hM : Sz m n M) {r q : Nat} (hr : r < m) (hq : q < n) : cel (gridS 1 L M) r q = cel L r q + cel M r q := by
  have g1 : r < L.length := by rw [hL.1]; exact hr
  have g2 : r < M.length := by rw [hM.1]; exact hr
  have g3 := hL.2 _ (List.getElem_mem g1)
  have g4 := hM.2 _ (List.getElem_mem g2)
  unfold cel gridS
  rw [List.getElem?_zipWith, List.getElem?_eq_getElem g1, List.getElem?_eq_getElem g2]
  simp only [Option.getD_some]
  unfold rowS
  rw [List.getElem?_zipWith, List.getElem?_eq_getElem (by omega), List.getElem?_eq_getElem (by omega)]
  simp
theorem sz_of_dims {m n : Nat} {L : List (List Int)} (h : Dims m n L) : Sz m n L := ⟨h.len, fun r hr => (h.rows r hr).1⟩
theorem cel_flat {m n : Nat} {L : List (List Int)} (h : Sz m n L) {r q : Nat} (hr : r < m) (hq : q < n) : cel L r q = (L.flatten[r * n + q]?).getD 0 := by
  rw [flat_get r q h.2 (by rw [h.1]; exact hr) hq]
  rfl
theorem cells_sz {c : Cfg} {l : Int} {us : Ups} (h : UpsIn c l us) : Sz (rws c) (wds c) (cells c l us) := by
  have hok := opsU_ok h.1
  by_cases h2 : c.md = 2
  · rw [cells_con h2]
    have hro := rose_all (rose_zero (rws c) (wds c)) hok (plus_of h h2)
    exact hro.sg
  · rw [cells_lin h2]
    exact chAll_sz (sz_zeros (rws c) (wds c)) hok
/-- What has something is merged in: some cell is another one. -/
theorem one_merge {c : Cfg} {l a b : Int} (hk : 1 ≤ keys c l) (a0 : 0 ≤ a) (a1 : a ≤ 1099511627776) (b0 : 1 ≤ b) (b1 : b ≤ 1099511627776) :
    mgCode 1 c c l l (cells c l [(0, a)]) (cells c l [(0, b)]) = 0 ∧ (mgRes 1 c c l l (cells c l [(0, a)]) (cells c l [(0, b)])).flatten ≠ (cells c l [(0, a)]).flatten := by
  have hia := one_in hk a0 a1
  have hib := one_in (d := b) hk (by omega) b1
  have hr := (keys_pos.1 hk).1
  have hs1 := cells_sz hia
  have hs2 := cells_sz hib
  have hf : fitsAll (gridS 1 (cells c l [(0, a)]) (cells c l [(0, b)])) = true := by
    have h1 := opsU_ok hia.1
    have h2 := opsU_ok hib.1
    by_cases hm : c.md = 2
    · rw [cells_con hm, cells_con hm]
      exact join_fits (m := rws c) (n := wds c) (rose_dims h1 (plus_of hia hm) (by rw [opsU_len]; simp)).2 (rose_dims h2 (plus_of hib hm) (by rw [opsU_len]; simp)).2
    · rw [cells_lin hm, cells_lin hm]
      exact join_fits (m := rws c) (n := wds c) (within_mono (chAll_within (c := 1099511627776) (by omega) (b := 0) (Int.le_refl _) (within_zeros (rws c) (wds c)) h1) (c := 65970697666560) (by rw [opsU_len]; simp)) (within_mono (chAll_within (c := 1099511627776) (by omega) (b := 0) (Int.le_refl _) (within_zeros (rws c) (wds c)) h2) (c := 65970697666560) (by rw [opsU_len]; simp))
  have hj := jcode_yes (s := 1) (m := rws c) (n := wds c) hf
  have hce : cfgE c c = true := decide_eq_true ⟨rfl, rfl, rfl, rfl, rfl⟩
  have hs1x : ¬ ((1 : Int) = -1 ∧ c.md = 2) := by omega
  unfold mgCode mgRes
  rw [if_pos (show cfgE c c = true ∧ l = l from ⟨hce, rfl⟩), if_pos (show cfgE c c = true ∧ l = l from ⟨hce, rfl⟩), if_neg hs1x, if_neg hs1x]
  refine ⟨hj.1, ?_⟩
  rw [hj.2]
  intro he
  have hw := rws_bd hr
  have hv := wds_bd hr
  have hcr := col_range hr l 0 0
  obtain ⟨q, hq⟩ : ∃ q : Nat, col c l 0 0 = q := ⟨(col c l 0 0).toNat, by omega⟩
  have hqn : q < wds c := by omega
  have hsg : Sz (rws c) (wds c) (gridS 1 (cells c l [(0, a)]) (cells c l [(0, b)])) := by
    refine ⟨by unfold gridS; rw [List.length_zipWith, hs1.1, hs2.1]; omega, fun r hr => ?_⟩
    obtain ⟨x, g1, y, g2, rfl⟩ := mem_zip hr
    unfold rowS
    rw [List.length_zipWith, hs1.2 x g1, hs2.2 y g2]
    omega
  have e1 := cel_sum hs1 hs2 (r := 0) (q := q) (by omega) hqn
  have e2 := cel_flat hsg (r := 0) (q := q) (by omega) hqn
  have e3 := cel_flat hs1 (r := 0) (q := q) (by omega) hqn
  rw [he] at e2
  have e4 := one_least (c := c) (l := l) (d := b) hk (by omega) b1 hq
  omega
end Go.Proofs.Ythecgkgnngpikaa.Sk
/- Sums of products, in numbers; the least product of rows. For stages from 11 on. -/
namespace Go.Proofs.Ythecgkgnngpikaa.Inn
open Go Go.RowKit
set_option linter.unusedVariables false
def dsum : List Int → List Int → Int
  | x :: xs, y :: ys => x * y + dsum xs ys
  | _, _ => 0
theorem dsum_l (ys : List Int) : dsum [] ys = 0 := by cases ys <;> rfl
theorem dsum_r (xs : List Int) : dsum xs [] = 0 := by cases xs <;> rfl
def dp (xs ys : List Int) (k : Nat) : Int := dsum (xs.take k) (ys.take k)
theorem dp_0 (xs ys : List Int) : dp xs ys 0 = 0 := by unfold dp; simp [dsum]
theorem dp_next : ∀ {xs ys : List Int} {k : Nat} {x y : Int}, xs[k]? = some x → ys[k]? = some y → dp xs ys (k + 1) = dp xs ys k + x * y
  | [], ys, k, x, y, h, _ => by simp at h
  | a :: xs, [], k, x, y, _, h => by simp at h
  | a :: xs, b :: ys, 0, x, y, h, g => by
    simp at h g
    subst h g
    unfold dp
    simp [dsum, dsum_l]
  | a :: xs, b :: ys, k + 1, x, y, h, g => by
    have ih := dp_next (xs := xs) (ys := ys) (k := k) (x := x) (y := y) (by simpa using h) (by simpa using g)
    unfold dp at ih ⊢
    simp only [List.take_succ_cons, dsum, ih]
    omega
theorem dp_all {xs ys : List Int} {k : Nat} (h : xs.length ≤ k) (g : ys.length ≤ k) : dp xs ys k = dsum xs ys := by
  unfold dp
  rw [List.take_of_length_le h, List.take_of_length_le g]
def dok (xs ys : List Int) : Bool := decide (xs.length = ys.length) && (List.range (xs.length + 1)).all (fun k => Wid.fit (dp xs ys k))
def dhi (xs ys : List Int) : Int := if dok xs ys = true then Wid.fh (dsum xs ys) else 0
def dlo (xs ys : List Int) : Int := if dok xs ys = true then Wid.fl (dsum xs ys) else 0
theorem dok_fit {xs ys : List Int} (h : dok xs ys = true) : xs.length = ys.length ∧ ∀ k, k ≤ xs.length → Wid.fit (dp xs ys k) = true := by
  unfold dok at h
  simp only [Bool.and_eq_true, decide_eq_true_eq, List.all_eq_true, List.mem_range] at h
  exact ⟨h.1, fun k hk => h.2 k (by omega)⟩
theorem dok_yes {xs ys : List Int} (hl : xs.length = ys.length) (h : ∀ k, k ≤ xs.length → Wid.fit (dp xs ys k) = true) : dok xs ys = true ∧ dhi xs ys = Wid.fh (dsum xs ys) ∧ dlo xs ys = Wid.fl (dsum xs ys) := by
  have e : dok xs ys = true := by
    unfold dok
    simp only [Bool.and_eq_true, decide_eq_true_eq, List.all_eq_true, List.mem_range]
    exact ⟨hl, fun k hk => h k (by omega)⟩
  exact ⟨e, if_pos e, if_pos e⟩
theorem dok_false {xs ys : List Int} (h : dok xs ys = false) : dhi xs ys = 0 ∧ dlo xs ys = 0 := by
  unfold dhi dlo
  rw [h]
  exact ⟨rfl, rfl⟩
theorem dok_no {xs ys : List Int} {k : Nat} (hk : k ≤ xs.length) (h : Wid.fit (dp xs ys k) = false) : dok xs ys = false ∧ dhi xs ys = 0 ∧ dlo xs ys = 0 := by
  have e : dok xs ys = false := by
    cases g : dok xs ys with
    | false => rfl
    | true => rw [(dok_fit g).2 k hk] at h; cases h
  exact ⟨e, dok_false e⟩
theorem dok_ne {xs ys : List Int} (hl : xs.length ≠ ys.length) : dok xs ys = false ∧ dhi xs ys = 0 ∧ dlo xs ys = 0 := by
  have e : dok xs ys = false := by
    cases g : dok xs ys with
    | false => rfl
    | true => exact absurd (dok_fit g).1 hl
  exact ⟨e, dok_false e⟩
theorem dhi_bd (xs ys : List Int) : -9223372036854775808 ≤ dhi xs ys ∧ dhi xs ys ≤ 9223372036854775807 := by
  unfold dhi
  split
  · exact Wid.fh_bd _
  · omega
theorem dlo_bd (xs ys : List Int) : 0 ≤ dlo xs ys ∧ dlo xs ys ≤ 18446744073709551615 := by
  unfold dlo
  split
  · exact Wid.fl_bd _
  · omega
theorem prod_bd {x y : Int} (hx : -9223372036854775808 ≤ x ∧ x ≤ 9223372036854775807) (hy : -9223372036854775808 ≤ y ∧ y ≤ 9223372036854775807) : -85070591730234615865843651857942052864 ≤ x * y ∧ x * y ≤ 85070591730234615865843651857942052864 := by
  have h : (x * y).natAbs ≤ 9223372036854775808 * 9223372036854775808 := by
    rw [Int.natAbs_mul]
    exact Nat.mul_le_mul (by omega) (by omega)
  omega
theorem fit_bd {z : Int} (h : Wid.fit z = true) : -170141183460469231731687303715884105728 ≤ z ∧ z < 170141183460469231731687303715884105728 := of_decide_eq_true h
theorem dsum_comm : ∀ xs ys : List Int, dsum xs ys = dsum ys xs
  | [], ys => by rw [dsum_l, dsum_r]
  | x :: xs, [] => rfl
  | x :: xs, y :: ys => by simp only [dsum, dsum_comm xs ys, Int.mul_comm]
theorem dp_comm (xs ys : List Int) (k : Nat) : dp xs ys k = dp ys xs k := dsum_comm _ _
theorem dsum_bd {a b : Int} (ha : 0 ≤ a) (hb : 0 ≤ b) : ∀ {xs ys : List Int}, (∀ x ∈ xs, -a ≤ x ∧ x ≤ a) → (∀ y ∈ ys, -b ≤ y ∧ y ≤ b) → -(xs.length * (a * b)) ≤ dsum xs ys ∧ dsum xs ys ≤ xs.length * (a * b)
  | [], ys, _, _ => by rw [dsum_l]; simp
  | x :: xs, [], _, _ => by
    have h1 : 0 ≤ ((x :: xs).length : Int) * (a * b) := Int.mul_nonneg (by omega) (Int.mul_nonneg ha hb)
    simp only [dsum]
    omega
  | x :: xs, y :: ys, hx, hy => by
    have ih := dsum_bd ha hb (xs := xs) (ys := ys) (fun v hv => hx v (by simp [hv])) (fun v hv => hy v (by simp [hv]))
    have h1 := hx x (by simp)
    have h2 := hy y (by simp)
    have h3 : (x * y).natAbs ≤ a.natAbs * b.natAbs := by
      rw [Int.natAbs_mul]
      exact Nat.mul_le_mul (by omega) (by omega)
    have h4 : ((a.natAbs * b.natAbs : Nat) : Int) = a * b := by
      rw [Int.natCast_mul, Int.natAbs_of_nonneg ha, Int.natAbs_of_nonneg hb]
    have e1 : ((x :: xs).length : Int) * (a * b) = (xs.length : Int) * (a * b) + a * b := by
      have e1 : ((x :: xs).length : Int) = (xs.length : Int) + 1 := by simp
      rw [e1, Int.add_mul, Int.one_mul]
    rw [e1]
    simp only [dsum]
    omega
/-- Where all fits, of numbers that are small. -/
theorem dok_small {a b : Int} (ha : 0 ≤ a) (hb : 0 ≤ b) {xs ys : List Int} (hl : xs.length = ys.length) (hx : ∀ x ∈ xs, -a ≤ x ∧ x ≤ a) (hy : ∀ y ∈ ys, -b ≤ y ∧ y ≤ b) (h : (xs.length : Int) * (a * b) < 170141183460469231731687303715884105728) :
    dok xs ys = true ∧ dhi xs ys = Wid.fh (dsum xs ys) ∧ dlo xs ys = Wid.fl (dsum xs ys) := by
  refine dok_yes hl fun k hk => ?_
  have h1 := dsum_bd ha hb (xs := xs.take k) (ys := ys.take k) (fun v hv => hx v (List.mem_of_mem_take hv)) (fun v hv => hy v (List.mem_of_mem_take hv))
  have h2 : ((xs.take k).length : Int) * (a * b) ≤ (xs.length : Int) * (a * b) := Int.mul_le_mul_of_nonneg_right (by simp; omega) (Int.mul_nonneg ha hb)
  exact (Wid.fit_yes (by unfold dp; omega) (by unfold dp; omega)).1
/-! ### The least of the rows -/
def lmin : List Int → Int
  | [] => 0
  | x :: xs => xs.foldl min x
theorem lmin_next {zs : List Int} {k : Nat} {z : Int} (h : zs[k]? = some z) (hk : 1 ≤ k) : lmin (zs.take (k + 1)) = min (lmin (zs.take k)) z := by
  obtain ⟨h1, h2⟩ := List.getElem?_eq_some_iff.1 h
  rw [List.take_succ_eq_append_getElem h1, h2]
  match zs, k, hk with
  | [], k, _ => simp at h1
  | x :: zs, k + 1, _ => simp [lmin, List.foldl_append]
theorem lmin_one {zs : List Int} {z : Int} (h : zs[0]? = some z) : lmin (zs.take 1) = z := by
  match zs with
  | [] => simp at h
  | x :: zs => simpa [lmin] using h
theorem foldl_min_eq {v : Int} : ∀ (xs : List Int) (x : Int), v ≤ x → (∀ y ∈ xs, v ≤ y) → (v = x ∨ v ∈ xs) → xs.foldl min x = v
  | [], x, h0, _, h => by simpa using h.elim (fun e => e.symm) (fun h => by simp at h)
  | y :: xs, x, h0, h1, h => by
    have h2 := h1 y (by simp)
    simp only [List.foldl_cons]
    by_cases hv : v = min x y
    · exact foldl_min_eq xs _ (by omega) (fun z hz => h1 z (by simp [hz])) (.inl hv)
    · refine foldl_min_eq xs _ (by omega) (fun z hz => h1 z (by simp [hz])) (.inr ?_)
      rcases h with h | h
      · omega
      · rcases List.mem_cons.1 h with h | h
        · omega
        · exact h
theorem lmin_eq {zs : List Int} {v : Int} (h1 : v ∈ zs) (h2 : ∀ y ∈ zs, v ≤ y) : lmin zs = v := by
  match zs with
  | [] => simp at h1
  | x :: zs => exact foldl_min_eq zs x (h2 x (by simp)) (fun y hy => h2 y (by simp [hy])) (by simpa using h1)
/-- The products of the rows. -/
def dots (L M : List (List Int)) : List Int := List.zipWith dsum L M
theorem dots_get {L M : List (List Int)} {k : Nat} {xs ys : List Int} (h : L[k]? = some xs) (g : M[k]? = some ys) : (dots L M)[k]? = some (dsum xs ys) := by
  unfold dots
  rw [List.getElem?_zipWith, h, g]
theorem dots_len {L M : List (List Int)} (h : L.length = M.length) : (dots L M).length = L.length := by
  unfold dots
  rw [List.length_zipWith, h]
  omega
def oks (L M : List (List Int)) : Bool := (List.zipWith dok L M).all id
theorem oks_get {L M : List (List Int)} (h : oks L M = true) {k : Nat} {xs ys : List Int} (h1 : L[k]? = some xs) (h2 : M[k]? = some ys) : dok xs ys = true := by
  unfold oks at h
  rw [List.all_eq_true] at h
  have hm : dok xs ys ∈ List.zipWith dok L M := List.mem_of_getElem? (i := k) (by rw [List.getElem?_zipWith, h1, h2])
  exact h (dok xs ys) hm
theorem oks_no {L M : List (List Int)} {k : Nat} {xs ys : List Int} (h1 : L[k]? = some xs) (h2 : M[k]? = some ys) (h : dok xs ys = false) : oks L M = false := by
  cases g : oks L M with
  | false => rfl
  | true => rw [oks_get g h1 h2] at h; cases h
theorem oks_yes {L M : List (List Int)} (hl : L.length = M.length) (h : ∀ (k : Nat) (xs ys : List Int), L[k]? = some xs → M[k]? = some ys → dok xs ys = true) : oks L M = true := by
  unfold oks
  rw [List.all_eq_true]
  intro b hb
  obtain ⟨k, hk⟩ := List.getElem?_of_mem hb
  rw [List.getElem?_zipWith] at hk
  split at hk
  · rename_i x y h1 h2
    injection hk with hk
    subst hk
    exact h _ _ _ h1 h2
  · cases hk
end Go.Proofs.Ythecgkgnngpikaa.Inn
/- The walks of the code's sums of products: inner.Dot. Printed by wip/gen/inn.py. -/
namespace Go.Proofs.Ythecgkgnngpikaa.Inn
open Go Go.RowKit Lw
set_option linter.unusedVariables false
set_option linter.unusedSimpArgs false
theorem idot_ne (A B : Option Addr) (n m ca cb : Nat) (xs ys : List Int) (w : World) (hlx : xs.length = n) (hly : ys.length = m) (hne : n ≠ m) :
    Calls Try.prog 11 #[.slice A n ca, .slice B m cb] w fun e w' => e = .returned (.tuple #[.agg #[.int .i64 (dhi xs ys), .int .u64 (dlo xs ys)], .bool (dok xs ys)]) ∧ Below w.heap.size w w' := by
  have h := dok_ne (xs := xs) (ys := ys) (by omega)
  have hb : ((n : Int) != (m : Int)) = true := by simp; omega
  rw [h.1, h.2.1, h.2.2]
  clear h
  go_enter Try.func11, Try.ntmps11
  go_wp2
  go_returns
  exact ⟨rfl, by (repeat' (first | (with_reducible exact Below.refl _ _) | (with_reducible assumption) | (with_reducible refine below_over ?_ _ _) | (with_reducible refine Lw.below_alloc ?_ _) | (with_reducible refine Below.drew ?_) | (with_reducible refine below_drewN ?_ _) | (with_reducible refine Below.setCell ?_ ?_ _) | go_size))⟩
set_option maxRecDepth 100000 in
set_option maxHeartbeats 4000000 in
theorem idot_eq (A B : Option Addr) (n ca cb : Nat) (xs ys : List Int) (w : World) (hx : Rd .i64 w A xs) (hy : Rd .i64 w B ys) (hlx : xs.length = n) (hly : ys.length = n) (hn : n ≤ 1000) (hzx : In64 xs) (hzy : In64 ys) :
    Calls Try.prog 11 #[.slice A n ca, .slice B n cb] w fun e w' => e = .returned (.tuple #[.agg #[.int .i64 (dhi xs ys), .int .u64 (dlo xs ys)], .bool (dok xs ys)]) ∧ Below w.heap.size w w' := by
  have HX := Lib.hid hx
  have HY := Lib.hid hy
  have HLX := Lib.hid hlx
  have HLY := Lib.hid hly
  have HZX := Lib.hid hzx
  have HZY := Lib.hid hzy
  clear hx hy hlx hly hzx hzy
  go_enter Try.func11, Try.ntmps11
  go_wp2
  go_loopw [19] (fun i wr => ∃ k : Nat, k ≤ n ∧ i = .int .i64 k ∧ Below w.heap.size w wr ∧ (∀ j, j ≤ k → Wid.fit (dp xs ys j) = true) ∧ wr.cell? ⟨w.heap.size, 0, none⟩ = some (.int .i64 0) ∧ wr.cell? ⟨w.heap.size, 1, none⟩ = some (.int .u64 0) ∧ wr.frozen? ⟨w.heap.size, 0, none⟩ = false ∧ wr.frozen? ⟨w.heap.size, 1, none⟩ = false ∧ wr.cell? ⟨w.heap.size + 1, 0, none⟩ = some (.int .i64 (Wid.fh (dp xs ys k))) ∧ wr.cell? ⟨w.heap.size + 1, 1, none⟩ = some (.int .u64 (Wid.fl (dp xs ys k))) ∧ wr.frozen? ⟨w.heap.size + 1, 0, none⟩ = false ∧ wr.frozen? ⟨w.heap.size + 1, 1, none⟩ = false) (fun i _ => n - (intOf i).toNat)
  case atStart =>
    refine ⟨0, Nat.zero_le _, rfl, by (repeat' (first | (with_reducible exact Below.refl _ _) | (with_reducible assumption) | (with_reducible refine below_over ?_ _ _) | (with_reducible refine Lw.below_alloc ?_ _) | (with_reducible refine Below.drew ?_) | (with_reducible refine below_drewN ?_ _) | (with_reducible refine Below.setCell ?_ ?_ _) | go_size)), ?_, ?_, ?_, ?_, ?_, ?_, ?_, ?_, ?_⟩
    · intro j hj
      obtain rfl : j = 0 := by omega
      rw [dp_0]
      decide
    all_goals (try rw [dp_0])
    all_goals simp [go_sem, Wid.fh, Wid.fl, Wid.fit]
  case round =>
    obtain ⟨k, hk, rfl, hbel, hfit, r0, r1, q0, q1, s0, s1, p0, p1⟩ := hrel
    have hfk := hfit k (Nat.le_refl _)
    obtain ⟨s, hs⟩ : ∃ s, dp xs ys k = s := ⟨_, rfl⟩
    rw [hs] at s0 s1 hfk
    have hsb := fit_bd hfk
    have HF := Lib.hid hfit
    have hz1 := Lw.cell_lt r0
    have hz2 := Lw.cell_lt s0
    simp only at hz1 hz2
    have lz1 : ∀ x : Nat, w.heap.size < wr.heap.size + x := fun x => by omega
    have lz2 : ∀ x : Nat, w.heap.size + 1 < wr.heap.size + x := fun x => by omega
    by_cases hlt : k < n
    · skip
      have hk1 : k < xs.length := by have := HLX.out; omega
      have hk2 : k < ys.length := by have := HLY.out; omega
      obtain ⟨x, hvx⟩ : ∃ x, xs[k]? = some x := ⟨_, List.getElem?_eq_getElem hk1⟩
      obtain ⟨y, hvy⟩ : ∃ y, ys[k]? = some y := ⟨_, List.getElem?_eq_getElem hk2⟩
      have hbx := HZX.out.at hvx
      have hby := HZY.out.at hvy
      have hnext := dp_next hvx hvy
      obtain ⟨ad, rfl, hcx⟩ := HX.out k x hvx
      obtain ⟨bd, rfl, hcy⟩ := HY.out k y hvy
      have cx : wr.cell? (ad.add k) = some (.int .i64 x) := by rw [hbel.cell (Lw.cell_lt hcx)]; exact hcx
      have cy : wr.cell? (bd.add k) = some (.int .i64 y) := by rw [hbel.cell (Lw.cell_lt hcy)]; exact hcy
      have hpb := prod_bd hbx hby
      rw [hs] at hnext
      obtain ⟨p, hp⟩ : ∃ p, x * y = p := ⟨_, rfl⟩
      rw [hp] at hnext hpb
      have hvs := Wid.vl_fit s (by omega) (by omega)
      have hvp := Wid.vl_fit p (by omega) (by omega)
      have hev : Wid.vl (Wid.fh s) (Wid.fl s) + Wid.vl (Wid.fh p) (Wid.fl p) = s + p := by rw [hvs, hvp]
      obtain ⟨z, hz⟩ : ∃ z, s + p = z := ⟨_, rfl⟩
      rw [hz] at hnext hev
      have HN := Lib.hid hnext
      have CT := Lib.hid (fun w => Wid.times_any x y w hbx.1 hbx.2 hby.1 hby.2)
      rw [hp] at CT
      have CA := Lib.hid (fun w => Wid.add_any _ _ _ _ w (Wid.fh_bd s).1 (Wid.fh_bd s).2 (Wid.fl_bd s).1 (Wid.fl_bd s).2 (Wid.fh_bd p).1 (Wid.fh_bd p).2 (Wid.fl_bd p).1 (Wid.fl_bd p).2)
      rw [hev] at CA
      obtain ⟨fhs, hfhs⟩ : ∃ v, Wid.fh s = v := ⟨_, rfl⟩
      obtain ⟨fls, hfls⟩ : ∃ v, Wid.fl s = v := ⟨_, rfl⟩
      obtain ⟨fhp, hfhp⟩ : ∃ v, Wid.fh p = v := ⟨_, rfl⟩
      obtain ⟨flp, hflp⟩ : ∃ v, Wid.fl p = v := ⟨_, rfl⟩
      obtain ⟨fhz, hfhz⟩ : ∃ v, Wid.fh z = v := ⟨_, rfl⟩
      obtain ⟨flz, hflz⟩ : ∃ v, Wid.fl z = v := ⟨_, rfl⟩
      obtain ⟨b, hb⟩ : ∃ v, Wid.fit z = v := ⟨_, rfl⟩
      rw [hfhs, hfls, hfhp, hflp, hfhz, hflz, hb] at CA
      rw [hfhp, hflp] at CT
      rw [hfhs] at s0
      rw [hfls] at s1
      have HB := Lib.hid hb
      have HZ := Lib.hid (And.intro hfhz hflz)
      clear hfhs hfls hfhp hflp hfhz hflz hz hev hvs hvp hnext hp hpb hbx hby hvx hvy hk2 hfit hfk hsb hs hcx hcy
      have HNO : Hid (b = false → dok xs ys = false ∧ dhi xs ys = 0 ∧ dlo xs ys = 0) := Lib.hid (fun hb2 => dok_no (xs := xs) (ys := ys) (k := k + 1) hk1 (by rw [HN.out, hb, hb2]))
      clear hb hk1
      cases b with
      | true =>
        go_wp2_with fail
        go_region_held3 (fun w' => w'.cell? ⟨w.heap.size + 1, 0, none⟩ = some (.int .i64 fhs) ∧ w'.cell? ⟨w.heap.size + 1, 1, none⟩ = some (.int .u64 fls) ∧ w'.cell? (bd.add k) = some (.int .i64 y)) (first | (refine ⟨?_, ?_, ?_⟩ <;> (first | (with_reducible assumption) | (with_reducible refine cell_up s0 ?_) | (with_reducible refine cell_up s1 ?_) | (with_reducible refine cell_up cy ?_)) <;> (repeat' (first | (with_reducible exact Below.refl _ _) | (with_reducible assumption) | (with_reducible refine below_over ?_ _ _) | (with_reducible refine Lw.below_alloc ?_ _) | (with_reducible refine Below.drew ?_) | (with_reducible refine below_drewN ?_ _) | (with_reducible refine Below.setCell ?_ ?_ _) | go_size)))) (first
          | (go_at_call 34; (with_reducible refine (CT.out _).mono ?_); rintro e w' ⟨rfl, hb⟩; obtain ⟨bs, d, rfl⟩ := below_grow hb; clear hb)
          | (go_at_call 25; (with_reducible refine (CA.out _).mono ?_); rintro e w' ⟨rfl, hb⟩; obtain ⟨bs2, d2, rfl⟩ := below_grow hb; clear hb))
        all_goals
         go_wp2
         go_roundw
         case rel =>
           refine ⟨k + 1, by omega, by go_num, by (repeat' (first | (with_reducible exact Below.refl _ _) | (with_reducible assumption) | (with_reducible refine below_over ?_ _ _) | (with_reducible refine Lw.below_alloc ?_ _) | (with_reducible refine Below.drew ?_) | (with_reducible refine below_drewN ?_ _) | (with_reducible refine Below.setCell ?_ ?_ _) | go_size)), ?_, ?_, ?_, ?_, ?_, ?_, ?_, ?_, ?_⟩
           · intro j hj
             rcases Nat.lt_or_ge k j with h1 | h1
             · obtain rfl : j = k + 1 := by omega
               rw [HN.out]
               exact HB.out
             · exact HF.out j h1
           all_goals (try rw [HN.out])
           all_goals (try rw [HZ.out.1])
           all_goals (try rw [HZ.out.2])
           all_goals simp [go_sem, r0, r1, q0, q1, s0, s1, p0, p1, lz1, lz2, hz1, hz2]
         case measure => simp [intOf]; omega
      | false =>
        have HN2 := Lib.hid (HNO.out rfl)
        clear HNO
        go_wp2_with fail
        go_region_held3 (fun w' => w'.cell? ⟨w.heap.size + 1, 0, none⟩ = some (.int .i64 fhs) ∧ w'.cell? ⟨w.heap.size + 1, 1, none⟩ = some (.int .u64 fls) ∧ w'.cell? (bd.add k) = some (.int .i64 y)) (first | (refine ⟨?_, ?_, ?_⟩ <;> (first | (with_reducible assumption) | (with_reducible refine cell_up s0 ?_) | (with_reducible refine cell_up s1 ?_) | (with_reducible refine cell_up cy ?_)) <;> (repeat' (first | (with_reducible exact Below.refl _ _) | (with_reducible assumption) | (with_reducible refine below_over ?_ _ _) | (with_reducible refine Lw.below_alloc ?_ _) | (with_reducible refine Below.drew ?_) | (with_reducible refine below_drewN ?_ _) | (with_reducible refine Below.setCell ?_ ?_ _) | go_size)))) (first
          | (go_at_call 34; (with_reducible refine (CT.out _).mono ?_); rintro e w' ⟨rfl, hb⟩; obtain ⟨bs, d, rfl⟩ := below_grow hb; clear hb)
          | (go_at_call 25; (with_reducible refine (CA.out _).mono ?_); rintro e w' ⟨rfl, hb⟩; obtain ⟨bs2, d2, rfl⟩ := below_grow hb; clear hb))
        all_goals go_wp2
        all_goals refine bodyPost_ret (v := .tuple #[.agg #[.int .i64 0, .int .u64 0], .bool false]) (by simp [results, Try.results11, go_sem, r0, r1, q0, q1, lz1, hz1]) rfl ?_
        all_goals exact ⟨by rw [HN2.out.1, HN2.out.2.1, HN2.out.2.2], by (repeat' (first | (with_reducible exact Below.refl _ _) | (with_reducible assumption) | (with_reducible refine below_over ?_ _ _) | (with_reducible refine Lw.below_alloc ?_ _) | (with_reducible refine Below.drew ?_) | (with_reducible refine below_drewN ?_ _) | (with_reducible refine Below.setCell ?_ ?_ _) | go_size))⟩
    · have e : k = n := by omega
      subst e
      have h1 := dok_yes (xs := xs) (ys := ys) (by rw [HLX.out, HLY.out]) (by rw [HLX.out]; exact hfit)
      rw [← dp_all (xs := xs) (ys := ys) (k := k) (by rw [HLX.out]; omega) (by rw [HLY.out]; omega), hs] at h1
      obtain ⟨fhs, hfhs⟩ : ∃ v, Wid.fh s = v := ⟨_, rfl⟩
      obtain ⟨fls, hfls⟩ : ∃ v, Wid.fl s = v := ⟨_, rfl⟩
      rw [hfhs] at s0 h1
      rw [hfls] at s1 h1
      have H1 := Lib.hid h1
      clear h1 hfhs hfls hsb hs hfk hfit
      go_wp2
      refine bodyPost_ret (v := .tuple #[.agg #[.int .i64 fhs, .int .u64 fls], .bool true]) (by simp [results, Try.results11, go_sem, r0, r1, q0, q1, lz1, hz1]) rfl ?_
      exact ⟨by rw [H1.out.1, H1.out.2.1, H1.out.2.2], by (repeat' (first | (with_reducible exact Below.refl _ _) | (with_reducible assumption) | (with_reducible refine below_over ?_ _ _) | (with_reducible refine Lw.below_alloc ?_ _) | (with_reducible refine Below.drew ?_) | (with_reducible refine below_drewN ?_ _) | (with_reducible refine Below.setCell ?_ ?_ _) | go_size))⟩
theorem idot_any (A B : Option Addr) (n m ca cb : Nat) (xs ys : List Int) (w : World) (hx : Rd .i64 w A xs) (hy : Rd .i64 w B ys) (hlx : xs.length = n) (hly : ys.length = m) (hn : n ≤ 1000) (hzx : In64 xs) (hzy : In64 ys) :
    Calls Try.prog 11 #[.slice A n ca, .slice B m cb] w fun e w' => e = .returned (.tuple #[.agg #[.int .i64 (dhi xs ys), .int .u64 (dlo xs ys)], .bool (dok xs ys)]) ∧ Below w.heap.size w w' := by
  by_cases h : n = m
  · subst h
    exact idot_eq A B n ca cb xs ys w hx hy hlx hly hn hzx hzy
  · exact idot_ne A B n m ca cb xs ys w hlx hly h
end Go.Proofs.Ythecgkgnngpikaa.Inn
/- The walks of package inner (the code's): cut, alike, Inner. Printed by wip/gen/inncode.py. -/
namespace Go.Proofs.Ythecgkgnngpikaa.Inn
open Go Go.RowKit Lw Grd Lin Con Shp Sk
set_option linter.unusedVariables false
set_option linter.unusedSimpArgs false
theorem mul_small {i w : Int} (hi : 0 ≤ i) (hi8 : i ≤ 8) (hw : 0 ≤ w) (hw8 : w ≤ 128) : 0 ≤ i * w ∧ i * w ≤ 1024 := by
  refine ⟨Int.mul_nonneg hi hw, ?_⟩
  have h1 : i * w ≤ 8 * w := Int.mul_le_mul_of_nonneg_right hi8 hw
  omega
theorem cut_len {zs : List Int} {F T W : Nat} (h : T = F + W) (hl : T ≤ zs.length) : ((zs.drop F).take W).length = W := by
  rw [List.length_take, List.length_drop]
  omega
theorem slice_3 (a2 : Addr) (n k F T W : Nat) (hT : T = F + W) (hk : T ≤ k) (hW : 1 ≤ W) (w : World) : (Instr.slice 22 (.slice (some a2) n k) (some (.int .i64 (F : Int))) (some (.int .i64 (T : Int))) (some (.int .i64 (T : Int)))).run Try.prog w = .ok (.slice (some (a2.add F)) W W) w := by
  have m1 : (T : Int) ≤ (k : Int) := by omega
  have m2 : (F : Int) ≤ (T : Int) := by omega
  have m3 : ¬ T = F := by omega
  have k1 : T ≤ k := hk
  have k2 : F ≤ T := by omega
  have m4 : T - F = W := by omega
  have m5 : Try.prog.cellsOf 2 = 1 := by kernel_rfl
  simp [Instr.slice, Instr.sliceBounds, Instr.sliceBound, asIntOf, m1, m2, m3, m4, m5, k1, k2, go_sem]
/-- One row out of cells that stand row by row. -/
theorem icut_any (g n cap : Nat) (row width F T : Nat) (R W : Int) (w : World) (hr : R = row) (hwd : W = width) (hr8 : row < 8) (hw8 : width ≤ 128) (hw1 : 1 ≤ width) (hF : row * width = F) (hT : (row + 1) * width = T) (hn : T ≤ n) (hc : n ≤ cap) (hm : cap ≤ maxLen) :
    Calls Try.prog 50 #[.slice (some ⟨g, 0, none⟩) n cap, .int .i64 R, .int .i64 W] w fun e w' => e = .returned (.slice (some ⟨g, F, none⟩) width width) ∧ Below w.heap.size w w' := by
  subst hr hwd
  have e1 : ((row : Int) + 1) * (width : Int) = (((row + 1) * width : Nat) : Int) := by simp
  have e2 : (row : Int) * (width : Int) = ((row * width : Nat) : Int) := by simp
  have e3 : (row + 1) * width = row * width + width := by rw [Nat.add_mul, Nat.one_mul]
  have hb : row * width ≤ 7 * 128 := Nat.mul_le_mul (by omega) hw8
  unfold maxLen at hm
  rw [hF] at e2 e3 hb
  rw [hT] at e1 e3
  have w1 : wrap64 ((row : Int) * (width : Int)) = F := by rw [e2]; exact IntWalk.wrap64_in _ ⟨by omega, by omega⟩
  have w2 : wrap64 ((row : Int) + 1) = (row : Int) + 1 := IntWalk.wrap64_in _ ⟨by omega, by omega⟩
  have w3 : wrap64 (((row : Int) + 1) * (width : Int)) = T := by rw [e1]; exact IntWalk.wrap64_in _ ⟨by omega, by omega⟩
  have hs := slice_3 ⟨g, 0, none⟩ n cap F T width e3 (Nat.le_trans hn hc) hw1
  clear hF hT e1 e2 e3 hb hn hm
  go_enter Try.func50, Try.ntmps50
  go_wp2
  go_ret
  exact ⟨by first | rfl | simp [Ord.add_at], by (repeat' (first | (with_reducible exact Below.refl _ _) | (with_reducible assumption) | (with_reducible refine below_over ?_ _ _) | (with_reducible refine Lw.below_alloc ?_ _) | (with_reducible refine Below.drew ?_) | (with_reducible refine below_drewN ?_ _) | (with_reducible refine Below.setCell ?_ ?_ _) | go_size))⟩
theorem row_rd {w : World} {g F n : Nat} {zs : List Int} (hz : Ord.Mid w g 0 zs) : Rd .i64 w (some ⟨g, F, none⟩) ((zs.drop F).take n) := by
  have h := (hz.rd.drop F).take n
  rw [Ord.add_at, Nat.zero_add] at h
  exact h
theorem flat_row {m n : Nat} {L : List (List Int)} (h : Sz m n L) {k : Nat} {r : List Int} (hr : L[k]? = some r) : (L.flatten.drop (k * n)).take n = r := by
  have hk : k < L.length := (List.getElem?_eq_some_iff.1 hr).1
  have hrl : r.length = n := h.2 r (List.mem_of_getElem? hr)
  apply List.ext_getElem?
  intro j
  rw [List.getElem?_take]
  by_cases hj : j < n
  · rw [if_pos hj, List.getElem?_drop, flat_get k j h.2 hk hj, hr]
    rfl
  · rw [if_neg hj, List.getElem?_eq_none (by omega)]
def inCode (c c' : Cfg) (l l' : Int) (L M : List (List Int)) : Int := if cfgE c c' = true ∧ l = l' then (if c.md = 1 then (if oks L M = true then 0 else 4) else 3) else 5
def inVal (c c' : Cfg) (l l' : Int) (L M : List (List Int)) : Int := if inCode c c' l l' L M = 0 then lmin (dots L M) else 0
theorem in_no {c c' : Cfg} {l l' : Int} {L M : List (List Int)} (h : ¬ (cfgE c c' = true ∧ l = l')) : inCode c c' l l' L M = 5 ∧ inVal c c' l l' L M = 0 := by
  have e : inCode c c' l l' L M = 5 := if_neg h
  exact ⟨e, by unfold inVal; rw [e]; rfl⟩
theorem cfgE_self (c : Cfg) : cfgE c c = true := decide_eq_true ⟨rfl, rfl, rfl, rfl, rfl⟩
theorem in_mode {c : Cfg} {l : Int} {L M : List (List Int)} (h : c.md ≠ 1) : inCode c c l l L M = 3 ∧ inVal c c l l L M = 0 := by
  have e : inCode c c l l L M = 3 := by unfold inCode; rw [if_pos ⟨cfgE_self c, rfl⟩, if_neg h]
  exact ⟨e, by unfold inVal; rw [e]; rfl⟩
theorem in_over {c : Cfg} {l : Int} {L M : List (List Int)} (h : c.md = 1) (ho : oks L M = false) : inCode c c l l L M = 4 ∧ inVal c c l l L M = 0 := by
  have e : inCode c c l l L M = 4 := by unfold inCode; rw [if_pos ⟨cfgE_self c, rfl⟩, if_pos h, ho]; rfl
  exact ⟨e, by unfold inVal; rw [e]; rfl⟩
theorem in_yes {c : Cfg} {l : Int} {L M : List (List Int)} (h : c.md = 1) (ho : oks L M = true) : inCode c c l l L M = 0 ∧ inVal c c l l L M = lmin (dots L M) := by
  have e : inCode c c l l L M = 0 := by unfold inCode; rw [if_pos ⟨cfgE_self c, rfl⟩, if_pos h, ho]; rfl
  exact ⟨e, by unfold inVal; rw [e]; rfl⟩
theorem store2 {w : World} {b : Nat} {e : TypeId} {u0 u1 : Value} (h : (boxT b e #[u0, u1]).I w) (v0 v1 : Value) : (boxT b e #[v0, v1]).I ((w.setCell ⟨b, 0, none⟩ v0).setCell ⟨b, 1, none⟩ v1) :=
  boxs_set (boxs_set h 0 v0) 1 v1
theorem kept2 (w : World) (b : Nat) (v0 v1 : Value) : Kept (fun k => k = b) w ((w.setCell ⟨b, 0, none⟩ v0).setCell ⟨b, 1, none⟩ v1) :=
  Kept.set (F := fun k => k = b) (Kept.set (F := fun k => k = b) (Kept.refl _ w) (.inl rfl) 0 v0) (.inl rfl) 1 v1
theorem box2 {w : World} {b : Nat} {e : TypeId} {v0 v1 : Value} (h : (boxT b e #[v0, v1]).I w) : w.cell? ⟨b, 0, none⟩ = some v0 ∧ w.cell? ⟨b, 1, none⟩ = some v1 := ⟨box_cell h rfl, box_cell h rfl⟩
theorem ialike_nil1 (v : Value) (hv : v = .pointer none ∨ ∃ q, v = .pointer (some q)) (w : World) :
    Calls Try.prog 47 #[.pointer none, v] w fun e w' => e = .returned (.bool false) ∧ Below w.heap.size w w' := by
  rcases hv with rfl | ⟨q, rfl⟩
  all_goals (go_enter Try.func47, Try.ntmps47)
  all_goals go_wp2
  all_goals go_ret
  all_goals exact ⟨rfl, by (repeat' (first | (with_reducible exact Below.refl _ _) | (with_reducible assumption) | (with_reducible refine below_over ?_ _ _) | (with_reducible refine Lw.below_alloc ?_ _) | (with_reducible refine Below.drew ?_) | (with_reducible refine below_drewN ?_ _) | (with_reducible refine Below.setCell ?_ ?_ _) | go_size))⟩
theorem ialike_nil2 (p : Addr) (w : World) :
    Calls Try.prog 47 #[.pointer (some p), .pointer none] w fun e w' => e = .returned (.bool false) ∧ Below w.heap.size w w' := by
  go_enter Try.func47, Try.ntmps47
  go_wp2
  go_ret
  exact ⟨rfl, by (repeat' (first | (with_reducible exact Below.refl _ _) | (with_reducible assumption) | (with_reducible refine below_over ?_ _ _) | (with_reducible refine Lw.below_alloc ?_ _) | (with_reducible refine Below.drew ?_) | (with_reducible refine below_drewN ?_ _) | (with_reducible refine Below.setCell ?_ ?_ _) | go_size))⟩
set_option maxRecDepth 100000 in
theorem ialike_yes (p : Addr) (F : Nat → Prop) (c : Cfg) (l : Int) (L : List (List Int)) (q : Addr) (G : Nat → Prop) (M : List (List Int)) (w : World) (h : SK w p F c l L) (g : SK w q G c l M) :
    Calls Try.prog 47 #[.pointer (some p), .pointer (some q)] w fun e w' => e = .returned (.bool true) ∧ Below w.heap.size w w' := by
  have H := Lib.hid h
  have G := Lib.hid g
  clear h g
  go_enter Try.func47, Try.ntmps47
  go_wp2_with (first
    | (go_at_call_of 48 (Value.pointer (some p)); (with_reducible refine (sconfig_any _ _ _ _ _ _ (H.out.up (by (repeat' (first | (with_reducible exact Below.refl _ _) | (with_reducible assumption) | (with_reducible refine below_over ?_ _ _) | (with_reducible refine Lw.below_alloc ?_ _) | (with_reducible refine Below.drew ?_) | (with_reducible refine below_drewN ?_ _) | (with_reducible refine Below.setCell ?_ ?_ _) | go_size))))).mono ?_); rintro e w' ⟨rfl, hb⟩; obtain ⟨bs1, d1, rfl⟩ := below_grow hb; clear hb)
    | (go_at_call_of 48 (Value.pointer (some q)); (with_reducible refine (sconfig_any _ _ _ _ _ _ (G.out.up (by (repeat' (first | (with_reducible exact Below.refl _ _) | (with_reducible assumption) | (with_reducible refine below_over ?_ _ _) | (with_reducible refine Lw.below_alloc ?_ _) | (with_reducible refine Below.drew ?_) | (with_reducible refine below_drewN ?_ _) | (with_reducible refine Below.setCell ?_ ?_ _) | go_size))))).mono ?_); rintro e w' ⟨rfl, hb⟩; obtain ⟨bs2, d2, rfl⟩ := below_grow hb; clear hb)
    | (go_at_call_of 57 (Value.pointer (some p)); (with_reducible refine (slevel_any _ _ _ _ _ _ (H.out.up (by (repeat' (first | (with_reducible exact Below.refl _ _) | (with_reducible assumption) | (with_reducible refine below_over ?_ _ _) | (with_reducible refine Lw.below_alloc ?_ _) | (with_reducible refine Below.drew ?_) | (with_reducible refine below_drewN ?_ _) | (with_reducible refine Below.setCell ?_ ?_ _) | go_size))))).mono ?_); rintro e w' ⟨rfl, hb⟩; obtain ⟨bs3, d3, rfl⟩ := below_grow hb; clear hb)
    | (go_at_call_of 57 (Value.pointer (some q)); (with_reducible refine (slevel_any _ _ _ _ _ _ (G.out.up (by (repeat' (first | (with_reducible exact Below.refl _ _) | (with_reducible assumption) | (with_reducible refine below_over ?_ _ _) | (with_reducible refine Lw.below_alloc ?_ _) | (with_reducible refine Below.drew ?_) | (with_reducible refine below_drewN ?_ _) | (with_reducible refine Below.setCell ?_ ?_ _) | go_size))))).mono ?_); rintro e w' ⟨rfl, hb⟩; obtain ⟨bs4, d4, rfl⟩ := below_grow hb; clear hb))
  go_ret
  exact ⟨rfl, by (repeat' (first | (with_reducible exact Below.refl _ _) | (with_reducible assumption) | (with_reducible refine below_over ?_ _ _) | (with_reducible refine Lw.below_alloc ?_ _) | (with_reducible refine Below.drew ?_) | (with_reducible refine below_drewN ?_ _) | (with_reducible refine Below.setCell ?_ ?_ _) | go_size))⟩
set_option maxRecDepth 100000 in
theorem ialike_no (p : Addr) (F : Nat → Prop) (c : Cfg) (l : Int) (L : List (List Int)) (q : Addr) (G : Nat → Prop) (c' : Cfg) (l' : Int) (M : List (List Int)) (w : World) (h : SK w p F c l L) (g : SK w q G c' l' M) (hn : ¬ (cfgE c c' = true ∧ l = l')) :
    Calls Try.prog 47 #[.pointer (some p), .pointer (some q)] w fun e w' => e = .returned (.bool false) ∧ Below w.heap.size w w' := by
  have H := Lib.hid h
  have G := Lib.hid g
  clear h g
  by_cases hc : cfgE c c' = true
  · have hc2 := of_decide_eq_true hc
    obtain ⟨e0, e1, e2, e3, e4⟩ := hc2
    have hl : (l == l') = false := by
      have h1 : ¬ l = l' := fun e => hn ⟨hc, e⟩
      simpa using h1
    obtain ⟨a0, a1, a2, a3, a4⟩ := c
    obtain ⟨b0, b1, b2, b3, b4⟩ := c'
    simp only at e0 e1 e2 e3 e4
    subst e0 e1 e2 e3 e4
    clear hn hc
    go_enter Try.func47, Try.ntmps47
    go_wp2_with (first
      | (go_at_call_of 48 (Value.pointer (some p)); (with_reducible refine (sconfig_any _ _ _ _ _ _ (H.out.up (by (repeat' (first | (with_reducible exact Below.refl _ _) | (with_reducible assumption) | (with_reducible refine below_over ?_ _ _) | (with_reducible refine Lw.below_alloc ?_ _) | (with_reducible refine Below.drew ?_) | (with_reducible refine below_drewN ?_ _) | (with_reducible refine Below.setCell ?_ ?_ _) | go_size))))).mono ?_); rintro e w' ⟨rfl, hb⟩; obtain ⟨bs1, d1, rfl⟩ := below_grow hb; clear hb)
      | (go_at_call_of 48 (Value.pointer (some q)); (with_reducible refine (sconfig_any _ _ _ _ _ _ (G.out.up (by (repeat' (first | (with_reducible exact Below.refl _ _) | (with_reducible assumption) | (with_reducible refine below_over ?_ _ _) | (with_reducible refine Lw.below_alloc ?_ _) | (with_reducible refine Below.drew ?_) | (with_reducible refine below_drewN ?_ _) | (with_reducible refine Below.setCell ?_ ?_ _) | go_size))))).mono ?_); rintro e w' ⟨rfl, hb⟩; obtain ⟨bs2, d2, rfl⟩ := below_grow hb; clear hb)
      | (go_at_call_of 57 (Value.pointer (some p)); (with_reducible refine (slevel_any _ _ _ _ _ _ (H.out.up (by (repeat' (first | (with_reducible exact Below.refl _ _) | (with_reducible assumption) | (with_reducible refine below_over ?_ _ _) | (with_reducible refine Lw.below_alloc ?_ _) | (with_reducible refine Below.drew ?_) | (with_reducible refine below_drewN ?_ _) | (with_reducible refine Below.setCell ?_ ?_ _) | go_size))))).mono ?_); rintro e w' ⟨rfl, hb⟩; obtain ⟨bs3, d3, rfl⟩ := below_grow hb; clear hb)
      | (go_at_call_of 57 (Value.pointer (some q)); (with_reducible refine (slevel_any _ _ _ _ _ _ (G.out.up (by (repeat' (first | (with_reducible exact Below.refl _ _) | (with_reducible assumption) | (with_reducible refine below_over ?_ _ _) | (with_reducible refine Lw.below_alloc ?_ _) | (with_reducible refine Below.drew ?_) | (with_reducible refine below_drewN ?_ _) | (with_reducible refine Below.setCell ?_ ?_ _) | go_size))))).mono ?_); rintro e w' ⟨rfl, hb⟩; obtain ⟨bs4, d4, rfl⟩ := below_grow hb; clear hb))
    go_ret
    exact ⟨rfl, by (repeat' (first | (with_reducible exact Below.refl _ _) | (with_reducible assumption) | (with_reducible refine below_over ?_ _ _) | (with_reducible refine Lw.below_alloc ?_ _) | (with_reducible refine Below.drew ?_) | (with_reducible refine below_drewN ?_ _) | (with_reducible refine Below.setCell ?_ ?_ _) | go_size))⟩
  · have hc2 : (c.bt == c'.bt && (c.rw == c'.rw && (c.wd == c'.wd && (c.md == c'.md && c.sd == c'.sd)))) = false := by
      cases hx : (c.bt == c'.bt && (c.rw == c'.rw && (c.wd == c'.wd && (c.md == c'.md && c.sd == c'.sd)))) with
      | false => rfl
      | true => simp at hx; exact absurd (decide_eq_true hx) hc
    clear hn hc
    go_enter Try.func47, Try.ntmps47
    go_wp2_with (first
      | (go_at_call_of 48 (Value.pointer (some p)); (with_reducible refine (sconfig_any _ _ _ _ _ _ (H.out.up (by (repeat' (first | (with_reducible exact Below.refl _ _) | (with_reducible assumption) | (with_reducible refine below_over ?_ _ _) | (with_reducible refine Lw.below_alloc ?_ _) | (with_reducible refine Below.drew ?_) | (with_reducible refine below_drewN ?_ _) | (with_reducible refine Below.setCell ?_ ?_ _) | go_size))))).mono ?_); rintro e w' ⟨rfl, hb⟩; obtain ⟨bs1, d1, rfl⟩ := below_grow hb; clear hb)
      | (go_at_call_of 48 (Value.pointer (some q)); (with_reducible refine (sconfig_any _ _ _ _ _ _ (G.out.up (by (repeat' (first | (with_reducible exact Below.refl _ _) | (with_reducible assumption) | (with_reducible refine below_over ?_ _ _) | (with_reducible refine Lw.below_alloc ?_ _) | (with_reducible refine Below.drew ?_) | (with_reducible refine below_drewN ?_ _) | (with_reducible refine Below.setCell ?_ ?_ _) | go_size))))).mono ?_); rintro e w' ⟨rfl, hb⟩; obtain ⟨bs2, d2, rfl⟩ := below_grow hb; clear hb)
      | (go_at_call_of 57 (Value.pointer (some p)); (with_reducible refine (slevel_any _ _ _ _ _ _ (H.out.up (by (repeat' (first | (with_reducible exact Below.refl _ _) | (with_reducible assumption) | (with_reducible refine below_over ?_ _ _) | (with_reducible refine Lw.below_alloc ?_ _) | (with_reducible refine Below.drew ?_) | (with_reducible refine below_drewN ?_ _) | (with_reducible refine Below.setCell ?_ ?_ _) | go_size))))).mono ?_); rintro e w' ⟨rfl, hb⟩; obtain ⟨bs3, d3, rfl⟩ := below_grow hb; clear hb)
      | (go_at_call_of 57 (Value.pointer (some q)); (with_reducible refine (slevel_any _ _ _ _ _ _ (G.out.up (by (repeat' (first | (with_reducible exact Below.refl _ _) | (with_reducible assumption) | (with_reducible refine below_over ?_ _ _) | (with_reducible refine Lw.below_alloc ?_ _) | (with_reducible refine Below.drew ?_) | (with_reducible refine below_drewN ?_ _) | (with_reducible refine Below.setCell ?_ ?_ _) | go_size))))).mono ?_); rintro e w' ⟨rfl, hb⟩; obtain ⟨bs4, d4, rfl⟩ := below_grow hb; clear hb))
    all_goals first
      | (exfalso; revert hc2; simp [*]; done)
      | (go_ret; exact ⟨rfl, by (repeat' (first | (with_reducible exact Below.refl _ _) | (with_reducible assumption) | (with_reducible refine below_over ?_ _ _) | (with_reducible refine Lw.below_alloc ?_ _) | (with_reducible refine Below.drew ?_) | (with_reducible refine below_drewN ?_ _) | (with_reducible refine Below.setCell ?_ ?_ _) | go_size))⟩)
theorem inner_nil1 (v : Value) (hv : v = .pointer none ∨ ∃ q, v = .pointer (some q)) (w : World) :
    Calls Try.prog 18 #[.pointer none, v] w fun e w' => e = .returned (.tuple #[.agg #[.int .i64 0, .int .u64 0], .int .i64 5]) ∧ Below w.heap.size w w' := by
  have C := Lib.hid (fun w => ialike_nil1 v hv w)
  clear hv
  go_enter Try.func18, Try.ntmps18
  go_wp2_with (go_at_call 47; (with_reducible refine (C.out _).mono ?_); rintro e w' ⟨rfl, hb⟩; obtain ⟨bs, d, rfl⟩ := below_grow hb; clear hb)
  go_returns
  exact ⟨rfl, by (repeat' (first | (with_reducible exact Below.refl _ _) | (with_reducible assumption) | (with_reducible refine below_over ?_ _ _) | (with_reducible refine Lw.below_alloc ?_ _) | (with_reducible refine Below.drew ?_) | (with_reducible refine below_drewN ?_ _) | (with_reducible refine Below.setCell ?_ ?_ _) | go_size))⟩
theorem inner_nil2 (p : Addr) (w : World) :
    Calls Try.prog 18 #[.pointer (some p), .pointer none] w fun e w' => e = .returned (.tuple #[.agg #[.int .i64 0, .int .u64 0], .int .i64 5]) ∧ Below w.heap.size w w' := by
  go_enter Try.func18, Try.ntmps18
  go_wp2_with (go_at_call 47; (with_reducible refine (ialike_nil2 p _).mono ?_); rintro e w' ⟨rfl, hb⟩; obtain ⟨bs, d, rfl⟩ := below_grow hb; clear hb)
  go_returns
  exact ⟨rfl, by (repeat' (first | (with_reducible exact Below.refl _ _) | (with_reducible assumption) | (with_reducible refine below_over ?_ _ _) | (with_reducible refine Lw.below_alloc ?_ _) | (with_reducible refine Below.drew ?_) | (with_reducible refine below_drewN ?_ _) | (with_reducible refine Below.setCell ?_ ?_ _) | go_size))⟩
theorem inner_no (p : Addr) (F : Nat → Prop) (c : Cfg) (l : Int) (L : List (List Int)) (q : Addr) (G : Nat → Prop) (c' : Cfg) (l' : Int) (M : List (List Int)) (w : World) (h : SK w p F c l L) (g : SK w q G c' l' M) (hn : ¬ (cfgE c c' = true ∧ l = l')) :
    Calls Try.prog 18 #[.pointer (some p), .pointer (some q)] w fun e w' => e = .returned (.tuple #[.agg #[.int .i64 0, .int .u64 0], .int .i64 5]) ∧ Below w.heap.size w w' := by
  have C := Lib.hid (fun w' hb => ialike_no p F c l L q G c' l' M w' (h.up (w' := w') hb) (g.up hb) hn)
  clear h g hn
  go_enter Try.func18, Try.ntmps18
  go_wp2_with (go_at_call 47; (with_reducible refine (C.out _ (by (repeat' (first | (with_reducible exact Below.refl _ _) | (with_reducible assumption) | (with_reducible refine below_over ?_ _ _) | (with_reducible refine Lw.below_alloc ?_ _) | (with_reducible refine Below.drew ?_) | (with_reducible refine below_drewN ?_ _) | (with_reducible refine Below.setCell ?_ ?_ _) | go_size)))).mono ?_); rintro e w' ⟨rfl, hb⟩; obtain ⟨bs, d, rfl⟩ := below_grow hb; clear hb)
  go_returns
  exact ⟨rfl, by (repeat' (first | (with_reducible exact Below.refl _ _) | (with_reducible assumption) | (with_reducible refine below_over ?_ _ _) | (with_reducible refine Lw.below_alloc ?_ _) | (with_reducible refine Below.drew ?_) | (with_reducible refine below_drewN ?_ _) | (with_reducible refine Below.setCell ?_ ?_ _) | go_size))⟩
set_option maxRecDepth 100000 in
theorem inner_mode (p : Addr) (F : Nat → Prop) (c : Cfg) (l : Int) (L : List (List Int)) (q : Addr) (G : Nat → Prop) (M : List (List Int)) (w : World) (h : SK w p F c l L) (g : SK w q G c l M) (hn : c.md ≠ 1) :
    Calls Try.prog 18 #[.pointer (some p), .pointer (some q)] w fun e w' => e = .returned (.tuple #[.agg #[.int .i64 0, .int .u64 0], .int .i64 3]) ∧ Below w.heap.size w w' := by
  have C := Lib.hid (fun w' hb => ialike_yes p F c l L q G M w' (h.up (w' := w') hb) (g.up hb))
  have D := Lib.hid (fun w' hb => sconfig_any p F c l L w' (h.up (w' := w') hb))
  have hm : (c.md != 1) = true := by simpa using hn
  clear h g hn
  go_enter Try.func18, Try.ntmps18
  go_wp2_with (first
    | (go_at_call 47; (with_reducible refine (C.out _ (by (repeat' (first | (with_reducible exact Below.refl _ _) | (with_reducible assumption) | (with_reducible refine below_over ?_ _ _) | (with_reducible refine Lw.below_alloc ?_ _) | (with_reducible refine Below.drew ?_) | (with_reducible refine below_drewN ?_ _) | (with_reducible refine Below.setCell ?_ ?_ _) | go_size)))).mono ?_); rintro e w' ⟨rfl, hb⟩; obtain ⟨bs, d, rfl⟩ := below_grow hb; clear hb)
    | (go_at_call 48; (with_reducible refine (D.out _ (by (repeat' (first | (with_reducible exact Below.refl _ _) | (with_reducible assumption) | (with_reducible refine below_over ?_ _ _) | (with_reducible refine Lw.below_alloc ?_ _) | (with_reducible refine Below.drew ?_) | (with_reducible refine below_drewN ?_ _) | (with_reducible refine Below.setCell ?_ ?_ _) | go_size)))).mono ?_); rintro e w' ⟨rfl, hb⟩; obtain ⟨bs2, d2, rfl⟩ := below_grow hb; clear hb))
  go_returns
  exact ⟨rfl, by (repeat' (first | (with_reducible exact Below.refl _ _) | (with_reducible assumption) | (with_reducible refine below_over ?_ _ _) | (with_reducible refine Lw.below_alloc ?_ _) | (with_reducible refine Below.drew ?_) | (with_reducible refine below_drewN ?_ _) | (with_reducible refine Below.setCell ?_ ?_ _) | go_size))⟩
theorem foldl_min_mem : ∀ (xs : List Int) (x : Int), xs.foldl min x = x ∨ xs.foldl min x ∈ xs
  | [], x => .inl rfl
  | y :: xs, x => by
    simp only [List.foldl_cons]
    rcases foldl_min_mem xs (min x y) with h | h
    · rw [h]
      rcases (show min x y = x ∨ min x y = y by omega) with e | e
      · exact .inl e
      · exact .inr (by rw [e]; simp)
    · exact .inr (by simp [h])
theorem lmin_mem {zs : List Int} (h : zs ≠ []) : lmin zs ∈ zs := by
  match zs, h with
  | x :: zs, _ =>
    rcases foldl_min_mem zs x with e | e
    · show zs.foldl min x ∈ x :: zs
      rw [e]
      simp
    · show zs.foldl min x ∈ x :: zs
      simp [e]
theorem lmin_fit {L M : List (List Int)} {k : Nat} (h1 : 1 ≤ k) (hL : k ≤ L.length) (hM : k ≤ M.length) (h : ∀ (j : Nat) xs ys, j < k → L[j]? = some xs → M[j]? = some ys → dok xs ys = true) : Wid.fit (lmin ((dots L M).take k)) = true := by
  have hl : ((dots L M).take k).length = k := by
    rw [List.length_take]
    unfold dots
    rw [List.length_zipWith]
    omega
  have hne : (dots L M).take k ≠ [] := fun e => by rw [e] at hl; simp at hl; omega
  have hm := lmin_mem hne
  obtain ⟨j, hj⟩ := List.getElem?_of_mem hm
  have hjk : j < k := by
    have := (List.getElem?_eq_some_iff.1 hj).1
    omega
  rw [List.getElem?_take, if_pos hjk] at hj
  have e1 : L[j]? = some L[j] := List.getElem?_eq_getElem (by omega)
  have e2 : M[j]? = some M[j] := List.getElem?_eq_getElem (by omega)
  rw [dots_get e1 e2] at hj
  injection hj with hj
  rw [← hj]
  have hd := dok_fit (h j _ _ hjk e1 e2)
  have h3 := hd.2 L[j].length (Nat.le_refl _)
  rwa [dp_all (Nat.le_refl _) (by rw [← hd.1]; exact Nat.le_refl _)] at h3
theorem alloc_at {X : World} {n : Nat} {vs : Array Value} {t : TypeId} (h : X.heap.size = n) : (X.alloc (.cells vs t)).heap[n]? = some (.cells vs t (0, 0)) := by
  subst h
  exact heap_alloc_new X _
theorem grow_heap {X : World} {b : Nat} {o : Obj} (h : X.heap[b]? = some o) (bs : Array Obj) (d : Nat) : (grow X bs d).heap[b]? = some o := by
  rw [(grow_below X bs d).block b (size_of_heap h)]
  exact h
theorem lt_sz {a b : Nat} (h : a < b) (x : Nat) : a < b + x := by omega
set_option maxRecDepth 100000 in
set_option maxHeartbeats 8000000 in
theorem inner_lin (p : Addr) (F : Nat → Prop) (c : Cfg) (l : Int) (L : List (List Int)) (q : Addr) (G : Nat → Prop) (M : List (List Int)) (w : World) (h : SK w p F c l L) (g : SK w q G c l M) (hm1 : c.md = 1) :
    Calls Try.prog 18 #[.pointer (some p), .pointer (some q)] w fun e w' => e = .returned (.tuple #[.agg #[.int .i64 (Wid.fh (inVal c c l l L M)), .int .u64 (Wid.fl (inVal c c l l L M))], .int .i64 (inCode c c l l L M)]) ∧ Below w.heap.size w w' := by
  have hr := h.right.1
  have dL := h.dims
  have dM := g.dims
  have hmd : c.md = 1 := hm1
  have CA := Lib.hid (fun w' hb => ialike_yes p F c l L q G M w' (h.up (w' := w') hb) (g.up hb))
  have CF := Lib.hid (fun w' hb => sconfig_any p F c l L w' (h.up (w' := w') hb))
  have CL := Lib.hid (fun w' hb => scells_mid p F c l L w' (h.up (w' := w') hb))
  have CM := Lib.hid (fun w' hb => scells_mid q G c l M w' (g.up (w' := w') hb))
  have hrw := rws_bd hr
  have hwd := wds_bd hr
  have sL := sz_of_dims dL
  have sM := sz_of_dims dM
  have IY : Hid (oks L M = true → inCode c c l l L M = 0 ∧ inVal c c l l L M = lmin (dots L M)) := Lib.hid (fun ho => in_yes hmd ho)
  have IO : Hid (oks L M = false → inCode c c l l L M = 4 ∧ inVal c c l l L M = 0) := Lib.hid (fun ho => in_over hmd ho)
  have RL : Hid (∀ k r, L[k]? = some r → (L.flatten.drop (k * wds c)).take (wds c) = r ∧ r.length = wds c ∧ In64 r) := Lib.hid (fun k r e => ⟨flat_row sL e, sL.2 r (List.mem_of_getElem? e), (dL.rows r (List.mem_of_getElem? e)).2⟩)
  have RM : Hid (∀ k r, M[k]? = some r → (M.flatten.drop (k * wds c)).take (wds c) = r ∧ r.length = wds c ∧ In64 r) := Lib.hid (fun k r e => ⟨flat_row sM e, sM.2 r (List.mem_of_getElem? e), (dM.rows r (List.mem_of_getElem? e)).2⟩)
  have HLL := Lib.hid (And.intro sL.1 sM.1)
  obtain ⟨m, hmm⟩ : ∃ m, rws c = m := ⟨_, rfl⟩
  obtain ⟨n, hnn⟩ : ∃ n, wds c = n := ⟨_, rfl⟩
  rw [hmm] at CL CM hrw HLL
  rw [hnn] at CL CM hwd RL RM
  have HMQ : Hid (∀ k, k < m → (k + 1) * n ≤ m * n) := Lib.hid (fun k hk => Nat.mul_le_mul hk (Nat.le_refl _))
  obtain ⟨Q, hQ⟩ : ∃ Q, m * n = Q := ⟨_, rfl⟩
  rw [hQ] at CL CM HMQ
  have HRW := Lib.hid hrw.2.2.symm
  have HWD := Lib.hid hwd.2.2.symm
  have hm8 : 1 ≤ m ∧ m ≤ 8 := ⟨hrw.1, hrw.2.1⟩
  have hn8 : 1 ≤ n ∧ n ≤ 128 := ⟨hwd.1, hwd.2.1⟩
  obtain ⟨RV, hRV⟩ : ∃ v, inVal c c l l L M = v := ⟨_, rfl⟩
  obtain ⟨RC, hRC⟩ : ∃ v, inCode c c l l L M = v := ⟨_, rfl⟩
  rw [hRV, hRC] at IY IO ⊢
  have HBX : Hid (Have w (w.alloc (.cells #[.int .i64 0, .int .u64 0] 26)) [boxT w.heap.size 26 #[.int .i64 0, .int .u64 0]]) := Lib.hid (box_new w _ _)
  have hmf : (c.md != 1) = false := by simp [hmd]
  clear hRV hRC hQ hmm hnn sL sM dL dM hr h g hm1 hmd hrw hwd
  go_enter Try.func18, Try.ntmps18
  go_wp2_with (first
    | (go_at_call 47; (with_reducible refine (CA.out _ HBX.out.below).mono ?_); rintro e w1 ⟨rfl, hb⟩; have HV1 := Lib.hid (HBX.out.up hb); clear hb)
    | (go_at_call 48; (with_reducible refine (CF.out _ HV1.out.below).mono ?_); rintro e w2 ⟨rfl, hb⟩; have HV2 := Lib.hid ((HV1.out.up hb).push (boxT w2.heap.size 31 #[.int .i64 c.bt, .int .i64 c.rw, .int .i64 c.wd, .int .i64 c.md, .int .u64 c.sd]) (Lw.below_alloc (Below.refl _ _) _) (heap_alloc_new w2 _) (fun k hk => Nat.le_of_eq hk.symm)); have cm := box_cell (i := 3) HV2.out.i0 rfl; clear hb)
    | (go_at_call_of 49 (Value.pointer (some p)); (with_reducible refine (CL.out _ HV2.out.below).mono ?_); rintro e w3 ⟨g1, cap1, rfl, h1, h2, hc1, hc2, hb⟩; have HV3 := Lib.hid (HV2.out.push (midT g1 L.flatten) hb h1 (fun k hk => by subst hk; exact h2)); clear h1 h2 hb cm)
    | (go_at_call_of 49 (Value.pointer (some q)); (with_reducible refine (CM.out _ HV3.out.below).mono ?_); rintro e w4 ⟨g2, cap2, rfl, h1, h2, hc3, hc4, hb⟩; have HV4 := Lib.hid (HV3.out.push (midT g2 M.flatten) hb h1 (fun k hk => by subst hk; exact h2)); have HV5 := Lib.hid (HV4.out.push (boxT w4.heap.size 26 #[.int .i64 0, .int .u64 0]) (Lw.below_alloc (Below.refl _ _) _) (heap_alloc_new w4 _) (fun k hk => Nat.le_of_eq hk.symm)); have cr := box_cell (i := 1) HV5.out.i3 rfl; clear h1 h2 hb))
  obtain ⟨gc, hgc⟩ : ∃ gc, w2.heap.size = gc := ⟨_, rfl⟩
  obtain ⟨gl, hgl⟩ : ∃ gl, w4.heap.size = gl := ⟨_, rfl⟩
  rw [hgc] at HV5 cr ⊢
  rw [hgl] at HV5 ⊢
  clear hgc hgl cr
  go_loopw [30] (fun iv wr => ∃ (k : Nat), k ≤ m ∧ iv = .int .i64 k ∧ (∀ j xs ys, j < k → L[j]? = some xs → M[j]? = some ys → dok xs ys = true) ∧ Have w wr [boxT gl 26 #[.int .i64 (Wid.fh (lmin ((dots L M).take k))), .int .u64 (Wid.fl (lmin ((dots L M).take k)))], midT g2 M.flatten, midT g1 L.flatten, boxT gc 31 #[.int .i64 c.bt, .int .i64 c.rw, .int .i64 c.wd, .int .i64 c.md, .int .u64 c.sd], boxT w.heap.size 26 #[.int .i64 0, .int .u64 0]]) (fun iv _ => m - (intOf iv).toNat)
  case atStart => exact ⟨0, Nat.zero_le _, rfl, fun j xs ys hj => by omega, HV5.out⟩
  case round =>
    obtain ⟨k, hk, rfl, hok, hv⟩ := hrel
    have HV := Lib.hid hv
    have HOK := Lib.hid hok
    have HB := Lib.hid hv.below
    clear hv hok
    have cw : wr.cell? ⟨gc, 2, none⟩ = some (.int .i64 c.wd) := box_cell (i := 2) HV.out.i3 rfl
    obtain ⟨l0, l1⟩ := box2 HV.out.i0
    have f0 := boxs_frozen HV.out.i0 0
    have f1 := boxs_frozen HV.out.i0 1
    obtain ⟨r0, r1⟩ := box2 HV.out.i4
    have q0 := boxs_frozen HV.out.i4 0
    have q1 := boxs_frozen HV.out.i4 1
    have hgl := box_lt HV.out.i0
    have hsz := box_lt HV.out.i4
    have lz1 := lt_sz hgl
    have lz2 := lt_sz hsz
    by_cases hlt : k < m
    · have hrc : (k : Int) < c.rw := by rw [HRW.out]; omega
      obtain ⟨xs, hxs⟩ : ∃ xs, L[k]? = some xs := ⟨_, List.getElem?_eq_getElem (by rw [HLL.out.1]; exact hlt)⟩
      obtain ⟨ys, hys⟩ : ∃ ys, M[k]? = some ys := ⟨_, List.getElem?_eq_getElem (by rw [HLL.out.2]; exact hlt)⟩
      obtain ⟨x1, x2, x3⟩ := RL.out k xs hxs
      obtain ⟨y1, y2, y3⟩ := RM.out k ys hys
      have CC1 := Lib.hid (fun w => icut_any g1 Q cap1 k n _ _ k c.wd w rfl HWD.out (by omega) hn8.2 hn8.1 rfl rfl (HMQ.out k hlt) hc1 hc2)
      have CC2 := Lib.hid (fun w => icut_any g2 Q cap2 k n _ _ k c.wd w rfl HWD.out (by omega) hn8.2 hn8.1 rfl rfl (HMQ.out k hlt) hc3 hc4)
      have CD : Hid (∀ w', Below wr.heap.size wr w' → Calls Try.prog 11 #[.slice (some ⟨g1, k * n, none⟩) n n, .slice (some ⟨g2, k * n, none⟩) n n] w' fun e w2 => e = .returned (.tuple #[.agg #[.int .i64 (dhi xs ys), .int .u64 (dlo xs ys)], .bool (dok xs ys)]) ∧ Below w'.heap.size w' w2) := Lib.hid (fun w' hb => by
        have hx := row_rd (F := k * n) (n := n) ((midI HV.out.i2).up hb)
        have hy := row_rd (F := k * n) (n := n) ((midI HV.out.i1).up hb)
        rw [x1] at hx
        rw [y1] at hy
        exact idot_any _ _ n n n n xs ys w' hx hy x2 y2 (by omega) x3 y3)
      obtain ⟨Fk, hFk⟩ : ∃ Fk, k * n = Fk := ⟨_, rfl⟩
      rw [hFk] at CC1 CC2 CD
      have HD : Hid (dok xs ys = true → dhi xs ys = Wid.fh (dsum xs ys) ∧ dlo xs ys = Wid.fl (dsum xs ys) ∧ Wid.fit (dsum xs ys) = true) := Lib.hid (fun ho => by
        refine ⟨if_pos ho, if_pos ho, ?_⟩
        have hd := dok_fit ho
        have h3 := hd.2 xs.length (Nat.le_refl _)
        rwa [dp_all (Nat.le_refl _) (by rw [← hd.1]; exact Nat.le_refl _)] at h3)
      have HO : Hid (dok xs ys = false → oks L M = false) := Lib.hid (fun ho => oks_no hxs hys ho)
      have HZ : Hid ((dots L M)[k]? = some (dsum xs ys)) := Lib.hid (dots_get hxs hys)
      have HX := Lib.hid (And.intro hxs hys)
      obtain ⟨ph, hph⟩ : ∃ v, dhi xs ys = v := ⟨_, rfl⟩
      obtain ⟨pl, hpl⟩ : ∃ v, dlo xs ys = v := ⟨_, rfl⟩
      obtain ⟨b, hb⟩ : ∃ v, dok xs ys = v := ⟨_, rfl⟩
      obtain ⟨z, hz⟩ : ∃ v, dsum xs ys = v := ⟨_, rfl⟩
      rw [hph, hpl, hb] at CD
      rw [hph, hpl, hb, hz] at HD
      rw [hb] at HO
      rw [hz] at HZ
      have HBB := Lib.hid hb
      obtain ⟨v, hv⟩ : ∃ v, lmin ((dots L M).take k) = v := ⟨_, rfl⟩
      have HVV := Lib.hid hv
      rw [hv] at l0 l1
      clear hFk hph hpl hb hz hxs hys x1 x2 x3 y1 y2 y3 hv
      go_upto_region 11 with fail
      go_cut [11, 12] (fun s11 s12 wx => ∃ gp : Nat, s11 = .pointer (some ⟨gp, 0, none⟩) ∧ s12 = .bool b ∧ wr.heap.size ≤ gp ∧ Below wr.heap.size wr wx ∧ wx.heap[gp]? = some (.cells #[.int .i64 ph, .int .u64 pl] 26 (0, 0)))
      case first =>
        go_region_held3 (fun w' => w'.cell? ⟨gc, 2, none⟩ = some (.int .i64 c.wd)) (first | (with_reducible assumption) | (refine cell_up cw ?_ <;> (repeat' (first | (with_reducible exact Below.refl _ _) | (with_reducible assumption) | (with_reducible refine below_over ?_ _ _) | (with_reducible refine Lw.below_alloc ?_ _) | (with_reducible refine Below.drew ?_) | (with_reducible refine below_drewN ?_ _) | (with_reducible refine Below.setCell ?_ ?_ _) | go_size)))) (first
          | (go_at_call_of 50 (Value.slice (some ⟨g1, 0, none⟩) Q cap1); (with_reducible refine (CC1.out _).mono ?_); rintro e w' ⟨rfl, hb⟩; obtain ⟨bs1, d1, rfl⟩ := below_grow hb; clear hb)
          | (go_at_call_of 50 (Value.slice (some ⟨g2, 0, none⟩) Q cap2); (with_reducible refine (CC2.out _).mono ?_); rintro e w' ⟨rfl, hb⟩; obtain ⟨bs2, d2, rfl⟩ := below_grow hb; clear hb)
          | (go_at_call 11; (with_reducible refine (CD.out _ (by (repeat' (first | (with_reducible exact Below.refl _ _) | (with_reducible assumption) | (with_reducible refine below_over ?_ _ _) | (with_reducible refine Lw.below_alloc ?_ _) | (with_reducible refine Below.drew ?_) | (with_reducible refine below_drewN ?_ _) | (with_reducible refine Below.setCell ?_ ?_ _) | go_size)))).mono ?_); rintro e w' ⟨rfl, hb⟩; obtain ⟨bs3, d3, rfl⟩ := below_grow hb; clear hb))
        all_goals go_wp2_with fail
        all_goals go_meet
        all_goals refine ⟨_, rfl, rfl, by omega, by (repeat' (first | (with_reducible exact Below.refl _ _) | (with_reducible assumption) | (with_reducible refine below_over ?_ _ _) | (with_reducible refine Lw.below_alloc ?_ _) | (with_reducible refine Below.drew ?_) | (with_reducible refine below_drewN ?_ _) | (with_reducible refine Below.setCell ?_ ?_ _) | go_size)), ?_⟩
        all_goals first | exact alloc_at (by simp) | exact grow_heap (alloc_at (by simp)) _ _
      case rest =>
        obtain ⟨gp, rfl, rfl, hgp, hbx, hpb⟩ := hcut
        have HVc := Lib.hid (HV.out.up hbx)
        have hpb2 : (boxT gp 26 #[.int .i64 ph, .int .u64 pl]).I wc := hpb
        obtain ⟨t0, t1⟩ := box2 hpb2
        have hgp2 := box_lt hpb2
        clear l0 l1 f0 f1 r0 r1 q0 q1 hgl hsz lz1 lz2 cw CC1 CC2 CD hpb hpb2 HV
        have hgl := box_lt HVc.out.i0
        have hsz := box_lt HVc.out.i4
        obtain ⟨l0, l1⟩ := box2 HVc.out.i0
        rw [HVV.out] at l0 l1
        have f0 := boxs_frozen HVc.out.i0 0
        have f1 := boxs_frozen HVc.out.i0 1
        obtain ⟨r0, r1⟩ := box2 HVc.out.i4
        have q0 := boxs_frozen HVc.out.i4 0
        have q1 := boxs_frozen HVc.out.i4 1
        have hbc := HVc.out.below
        clear hbx
        cases b with
        | false =>
          have HN2 := Lib.hid (IO.out (HO.out rfl))
          go_wp2
          refine bodyPost_ret (v := .tuple #[.agg #[.int .i64 0, .int .u64 0], .int .i64 4]) (by simp [results, Try.results18, go_sem, r0, r1, q0, q1]) rfl ?_
          exact ⟨by rw [HN2.out.1, HN2.out.2]; rfl, by (repeat' (first | (with_reducible exact Below.refl _ _) | (with_reducible assumption) | (with_reducible refine below_over ?_ _ _) | (with_reducible refine Lw.below_alloc ?_ _) | (with_reducible refine Below.drew ?_) | (with_reducible refine below_drewN ?_ _) | (with_reducible refine Below.setCell ?_ ?_ _) | go_size))⟩
        | true =>
          obtain ⟨rfl, rfl, hfz⟩ := HD.out rfl
          have hzb := fit_bd hfz
          have hvz := Wid.vl_fit z hzb.1 hzb.2
          by_cases hk0 : k = 0
          · have HNX : Hid (lmin ((dots L M).take (k + 1)) = z) := Lib.hid (by
              rw [hk0]
              have h9 := HZ.out
              rw [hk0] at h9
              exact lmin_one h9)
            have hk0b : ((k : Int) == 0) = true := by simp [hk0]
            have HK0 := Lib.hid hk0
            clear hk0 hvz hzb hfz
            go_wp2
            go_roundw
            case rel =>
              refine ⟨k + 1, by omega, by go_num, fun j xs2 ys2 hj h1 h2 => ?_, ?_⟩
              · by_cases hjk : j < k
                · exact HOK.out j xs2 ys2 hjk h1 h2
                · obtain rfl : j = k := by omega
                  rw [HX.out.1] at h1
                  rw [HX.out.2] at h2
                  injection h1 with h1
                  injection h2 with h2
                  subst h1 h2
                  exact HBB.out
              · rw [HNX.out]
                exact ((HVc.out.turn_0 (boxT gl 26 #[.int .i64 (Wid.fh z), .int .u64 (Wid.fl z)]) (store2 HVc.out.i0 _ _) (kept2 wc gl _ _) (fun k hk => .inl hk)).up (by (repeat' (first | (with_reducible exact Below.refl _ _) | (with_reducible assumption) | (with_reducible refine below_over ?_ _ _) | (with_reducible refine Lw.below_alloc ?_ _) | (with_reducible refine Below.drew ?_) | (with_reducible refine below_drewN ?_ _) | (with_reducible refine Below.setCell ?_ ?_ _) | go_size))))
            case measure => simp [intOf]; omega
          · have hk0b : ((k : Int) == 0) = false := by simp; omega
            have hnx := lmin_next HZ.out (by omega)
            rw [HVV.out] at hnx
            have hfv : Wid.fit v = true := by rw [← HVV.out]; exact lmin_fit (by omega) (by rw [HLL.out.1]; omega) (by rw [HLL.out.2]; omega) HOK.out
            have hvb := fit_bd hfv
            have hvv := Wid.vl_fit v hvb.1 hvb.2
            have CS := Lib.hid (fun w => Wid.less_any (Wid.fh z) (Wid.fl z) (Wid.fh v) (Wid.fl v) w (Wid.fh_bd z).1 (Wid.fh_bd z).2 (Wid.fl_bd z).1 (Wid.fl_bd z).2 (Wid.fh_bd v).1 (Wid.fh_bd v).2 (Wid.fl_bd v).1 (Wid.fl_bd v).2)
            rw [hvz, hvv] at CS
            by_cases hzv : z < v
            · have HNX : Hid (lmin ((dots L M).take (k + 1)) = z) := Lib.hid (by rw [hnx]; omega)
              have hd : decide (z < v) = true := decide_eq_true hzv
              rw [hd] at CS
              clear hvz hzb hfz hnx hvb hvv hfv hzv hd hk0
              go_wp2_with (go_at_call 23; (with_reducible refine (CS.out _).mono ?_); rintro e w' ⟨rfl, hb⟩; obtain ⟨bs, d, rfl⟩ := below_grow hb; clear hb)
              go_roundw
              case rel =>
                refine ⟨k + 1, by omega, by go_num, fun j xs2 ys2 hj h1 h2 => ?_, ?_⟩
                · by_cases hjk : j < k
                  · exact HOK.out j xs2 ys2 hjk h1 h2
                  · obtain rfl : j = k := by omega
                    rw [HX.out.1] at h1
                    rw [HX.out.2] at h2
                    injection h1 with h1
                    injection h2 with h2
                    subst h1 h2
                    exact HBB.out
                · rw [HNX.out]
                  exact ((HVc.out.turn_0 (boxT gl 26 #[.int .i64 (Wid.fh z), .int .u64 (Wid.fl z)]) (store2 HVc.out.i0 _ _) (kept2 wc gl _ _) (fun k hk => .inl hk)).up (by (repeat' (first | (with_reducible exact Below.refl _ _) | (with_reducible assumption) | (with_reducible refine below_over ?_ _ _) | (with_reducible refine Lw.below_alloc ?_ _) | (with_reducible refine Below.drew ?_) | (with_reducible refine below_drewN ?_ _) | (with_reducible refine Below.setCell ?_ ?_ _) | go_size))))
              case measure => simp [intOf]; omega
            · have HNX : Hid (lmin ((dots L M).take (k + 1)) = v) := Lib.hid (by rw [hnx]; omega)
              have hd : decide (z < v) = false := decide_eq_false hzv
              rw [hd] at CS
              clear hvz hzb hfz hnx hvb hvv hfv hzv hd hk0
              go_wp2_with (go_at_call 23; (with_reducible refine (CS.out _).mono ?_); rintro e w' ⟨rfl, hb⟩; obtain ⟨bs, d, rfl⟩ := below_grow hb; clear hb)
              go_roundw
              case rel =>
                refine ⟨k + 1, by omega, by go_num, fun j xs2 ys2 hj h1 h2 => ?_, ?_⟩
                · by_cases hjk : j < k
                  · exact HOK.out j xs2 ys2 hjk h1 h2
                  · obtain rfl : j = k := by omega
                    rw [HX.out.1] at h1
                    rw [HX.out.2] at h2
                    injection h1 with h1
                    injection h2 with h2
                    subst h1 h2
                    exact HBB.out
                · rw [HNX.out]
                  rw [HVV.out] at HVc
                  exact (HVc.out.up (by (repeat' (first | (with_reducible exact Below.refl _ _) | (with_reducible assumption) | (with_reducible refine below_over ?_ _ _) | (with_reducible refine Lw.below_alloc ?_ _) | (with_reducible refine Below.drew ?_) | (with_reducible refine below_drewN ?_ _) | (with_reducible refine Below.setCell ?_ ?_ _) | go_size))))
              case measure => simp [intOf]; omega
    · have e : k = m := by omega
      subst e
      have hrc : ¬ (k : Int) < c.rw := by rw [HRW.out]; omega
      have hok : oks L M = true := oks_yes (by rw [HLL.out.1, HLL.out.2]) (fun j xs ys h1 h2 => HOK.out j xs ys (by have := (List.getElem?_eq_some_iff.1 h1).1; rw [HLL.out.1] at this; exact this) h1 h2)
      have HN2 := Lib.hid (IY.out hok)
      have hfull : (dots L M).take k = dots L M := List.take_of_length_le (by unfold dots; rw [List.length_zipWith, HLL.out.1]; omega)
      rw [hfull, ← HN2.out.2] at l0 l1
      obtain ⟨a0, ha0⟩ : ∃ v, Wid.fh RV = v := ⟨_, rfl⟩
      obtain ⟨a1, ha1⟩ : ∃ v, Wid.fl RV = v := ⟨_, rfl⟩
      rw [ha0] at l0
      rw [ha1] at l1
      have HA := Lib.hid (And.intro ha0 ha1)
      clear hok hfull ha0 ha1
      go_wp2
      refine bodyPost_ret (v := .tuple #[.agg #[.int .i64 a0, .int .u64 a1], .int .i64 0]) (by simp [results, Try.results18, go_sem, r0, r1, q0, q1]) rfl ?_
      have hbc := HB.out
      exact ⟨by rw [HN2.out.1, HA.out.1, HA.out.2], by (repeat' (first | (with_reducible exact Below.refl _ _) | (with_reducible assumption) | (with_reducible refine below_over ?_ _ _) | (with_reducible refine Lw.below_alloc ?_ _) | (with_reducible refine Below.drew ?_) | (with_reducible refine below_drewN ?_ _) | (with_reducible refine Below.setCell ?_ ?_ _) | go_size))⟩
theorem inner_any (p : Addr) (F : Nat → Prop) (c : Cfg) (l : Int) (L : List (List Int)) (q : Addr) (G : Nat → Prop) (c' : Cfg) (l' : Int) (M : List (List Int)) (w : World) (h : SK w p F c l L) (g : SK w q G c' l' M) :
    Calls Try.prog 18 #[.pointer (some p), .pointer (some q)] w fun e w' => e = .returned (.tuple #[.agg #[.int .i64 (Wid.fh (inVal c c' l l' L M)), .int .u64 (Wid.fl (inVal c c' l l' L M))], .int .i64 (inCode c c' l l' L M)]) ∧ Below w.heap.size w w' := by
  have z0 : Wid.fh 0 = 0 ∧ Wid.fl 0 = 0 := by decide
  by_cases hn : cfgE c c' = true ∧ l = l'
  · obtain ⟨hc, rfl⟩ := hn
    obtain ⟨e0, e1, e2, e3, e4⟩ := of_decide_eq_true hc
    obtain rfl : c = c' := by
      cases c; cases c'
      simp only at e0 e1 e2 e3 e4
      subst e0 e1 e2 e3 e4
      rfl
    by_cases hm : c.md = 1
    · exact inner_lin p F c l L q G M w h g hm
    · rw [(in_mode hm).1, (in_mode hm).2, z0.1, z0.2]
      exact inner_mode p F c l L q G M w h g hm
  · rw [(in_no hn).1, (in_no hn).2, z0.1, z0.2]
    exact inner_no p F c l L q G c' l' M w h g hn
end Go.Proofs.Ythecgkgnngpikaa.Inn
/- What the statements of layer 11 lean on: shown. Printed by wip/gen/innlaws.py. -/
namespace Go.Proofs.Ythecgkgnngpikaa.Inn
open Go Go.RowKit Lw Grd Lin Con Shp Sk
set_option linter.unusedVariables false
set_option linter.unusedSimpArgs false
def sI : Cfg := ⟨2, 2, 1, 1, 0⟩
theorem sI_ok : sI.Ok := by constructor <;> decide
theorem sI_r : IsRight sI := by decide
theorem sI_k0 : keys sI 0 = 4 := by decide
theorem sI_cols {k : Int} (h1 : k < 4) : cols sI 0 k = [0, 0] := by
  have h : ∀ r, col sI 0 k r = 0 := fun r => by
    have h2 := col_range sI_r 0 k r
    have e : sI.wd = 1 := rfl
    omega
  rw [cols_yes (by rw [sI_k0]; exact h1)]
  show (List.range 2).map (col sI 0 k) = [0, 0]
  simp [List.range, List.range.loop, h]
def iB : List (List Int) := [[5], [5]]
def iD : List (List Int) := [[7], [7]]
theorem iu1 : upCode sI 0 (zerosL 2 1) 1 5 = 0 ∧ upRes sI 0 (zerosL 2 1) 1 5 = iB := by
  unfold upCode upRes
  rw [sI_cols (by omega), sI_k0, if_neg (by omega), if_neg (by decide), if_neg (by omega), if_neg (by decide)]
  decide
theorem iu2 : upCode sI 0 (zerosL 2 1) 2 7 = 0 ∧ upRes sI 0 (zerosL 2 1) 2 7 = iD := by
  unfold upCode upRes
  rw [sI_cols (by omega), sI_k0, if_neg (by omega), if_neg (by decide), if_neg (by omega), if_neg (by decide)]
  decide
theorem ii : inCode sI sI 0 0 iB iD = 0 ∧ inVal sI sI 0 0 iB iD = 35 := by decide
theorem in_new (w : World) : Calls Try.prog 14 #[.agg #[.int .i64 2, .int .i64 2, .int .i64 1, .int .i64 1, .int .u64 0], .int .i64 0] w fun e w' => ∃ (p : Addr) (F : Nat → Prop), e = .returned (.tuple #[.pointer (some p), .int .i64 0]) ∧ SK w' p F sI 0 (zerosL 2 1) ∧ (∀ k, F k → w.heap.size ≤ k) ∧ Below w.heap.size w w' := snew_yes sI 0 w sI_ok (by omega) (by omega) (by rw [sI_k0]; omega)
theorem in_up (p : Addr) (F : Nat → Prop) (L M : List (List Int)) (k d x : Int) (w : World) (h : SK w p F sI 0 L) (k0 : 0 ≤ k) (k1 : k ≤ 18446744073709551615) (d0 : -9223372036854775808 ≤ d) (d1 : d ≤ 9223372036854775807) (hu : upCode sI 0 L k d = x ∧ upRes sI 0 L k d = M) :
    Calls Try.prog 16 #[.pointer (some p), .int .u64 k, .int .i64 d] w fun e w' => e = .returned (.int .i64 x) ∧ ∃ F', SK w' p F' sI 0 M ∧ Kept F w w' ∧ (∀ q, F' q → F q ∨ w.heap.size ≤ q) := by
  have C := supd_any p F sI 0 L k d w h k0 k1 d0 d1
  rw [hu.1, hu.2] at C
  exact C
theorem in_in (p : Addr) (F : Nat → Prop) (q : Addr) (G : Nat → Prop) (w : World) (h : SK w p F sI 0 iB) (g : SK w q G sI 0 iD) :
    Calls Try.prog 18 #[.pointer (some p), .pointer (some q)] w fun e w' => e = .returned (.tuple #[.agg #[.int .i64 0, .int .u64 35], .int .i64 0]) ∧ Below w.heap.size w w' := by
  have C := inner_any p F sI 0 iB q G sI 0 iD w h g
  rw [ii.1, ii.2, (show Wid.fh 35 = 0 by decide), (show Wid.fl 35 = 35 by decide)] at C
  exact C
theorem in_dot (a b : Nat) (w : World) (h0 : w.cell? ⟨a, 0, none⟩ = some (.int .i64 1)) (h1 : w.cell? ⟨a, 1, none⟩ = some (.int .i64 2)) (g0 : w.cell? ⟨b, 0, none⟩ = some (.int .i64 3)) (g1 : w.cell? ⟨b, 1, none⟩ = some (.int .i64 (-4))) :
    Calls Try.prog 11 #[.slice (some ⟨a, 0, none⟩) 2 2, .slice (some ⟨b, 0, none⟩) 2 2] w fun e w' => e = .returned (.tuple #[.agg #[.int .i64 (-1), .int .u64 18446744073709551611], .bool true]) ∧ Below w.heap.size w w' := by
  have C := idot_any (some ⟨a, 0, none⟩) (some ⟨b, 0, none⟩) 2 2 2 2 [1, 2] [3, -4] w (rd2 h0 h1) (rd2 g0 g1) rfl rfl (by omega) (by intro v hv; simp at hv; omega) (by intro v hv; simp at hv; omega)
  rw [(show dhi [1, 2] [3, -4] = -1 by decide), (show dlo [1, 2] [3, -4] = 18446744073709551611 by decide), (show dok [1, 2] [3, -4] = true by decide)] at C
  exact C
theorem in_dno (a : Nat) (w : World) :
    Calls Try.prog 11 #[.slice (some ⟨a, 0, none⟩) 1 1, .slice none 0 0] w fun e w' => e = .returned (.tuple #[.agg #[.int .i64 0, .int .u64 0], .bool false]) ∧ Below w.heap.size w w' := by
  have C := idot_ne (some ⟨a, 0, none⟩) none 1 0 1 0 [1] [] w rfl rfl (by omega)
  rw [(show dhi [1] [] = 0 by decide), (show dlo [1] [] = 0 by decide), (show dok [1] [] = false by decide)] at C
  exact C
theorem in_of (n a b : Int) (w : World) (h0 : -9223372036854775808 ≤ n) (h1 : n ≤ 9223372036854775807) (ha : Wid.fh n = a) (hb : Wid.fl n = b) :
    Calls Try.prog 22 #[.int .i64 n] w fun e w' => e = .returned (.agg #[.int .i64 a, .int .u64 b]) ∧ Below w.heap.size w w' := by
  have C := Wid.of_any n w h0 h1
  rw [ha, hb] at C
  exact C
set_option maxRecDepth 100000 in
set_option maxHeartbeats 4000000 in
theorem shown_any (w : World) : Calls Try.prog 10 #[] w fun e w' => e = .returned (.bool true) ∧ Below w.heap.size w w' := by
  have HV0 : Hid (Have w (w.alloc (.cells #[.int .i64 2, .int .i64 2, .int .i64 1, .int .i64 1, .int .u64 0] 31)) [boxT w.heap.size 31 #[.int .i64 2, .int .i64 2, .int .i64 1, .int .i64 1, .int .u64 0]]) := Lib.hid (box_new w _ _)
  obtain ⟨y0, y1, y2, y3, y4⟩ := box5 HV0.out.i0
  go_enter Try.func10, Try.ntmps10
  go_wp2_with (first
    | (go_at_call 11; (with_reducible refine (in_dno _ _).mono ?_); rintro e w9 ⟨rfl, hb⟩; have HV9 := Lib.hid (((HV7.out.up (by repeat' (first | (with_reducible exact Below.refl _ _) | (with_reducible assumption) | (with_reducible refine below_over ?_ _ _) | (with_reducible refine Lw.below_alloc ?_ _) | (with_reducible refine Below.drew ?_) | (with_reducible refine below_drewN ?_ _) | (with_reducible refine Below.setCell ?_ ?_ _) | go_size))).up hb).up (Lw.below_alloc (Below.refl _ _) (.cells #[.int .i64 0, .int .u64 0] 26))); clear hb)
    | (go_at_call 11; (with_reducible refine (in_dot _ _ _ (by simp [go_sem]) (by simp [go_sem]) (by simp [go_sem]) (by simp [go_sem])).mono ?_); rintro e w7 ⟨rfl, hb⟩; have HV7 := Lib.hid (((HV6.out.up (by repeat' (first | (with_reducible exact Below.refl _ _) | (with_reducible assumption) | (with_reducible refine below_over ?_ _ _) | (with_reducible refine Lw.below_alloc ?_ _) | (with_reducible refine Below.drew ?_) | (with_reducible refine below_drewN ?_ _) | (with_reducible refine Below.setCell ?_ ?_ _) | go_size))).up hb).push (boxT w7.heap.size 26 #[.int .i64 (-1), .int .u64 18446744073709551611]) (Lw.below_alloc (Below.refl _ _) _) (heap_alloc_new w7 _) (fun k hk => Nat.le_of_eq hk.symm)); clear hb)
    | (go_at_call 18; (with_reducible refine (inner_nil2 p _).mono ?_); rintro e w6 ⟨rfl, hb⟩; have HV6 := Lib.hid (HV5.out.up hb); clear hb)
    | (go_at_call 18; (with_reducible refine (in_in p F3 q F4 _ (skI HV4.out.i1) (skI HV4.out.i0)).mono ?_); rintro e w5 ⟨rfl, hb⟩; have HV5 := Lib.hid ((HV4.out.up hb).push (boxT w5.heap.size 26 #[.int .i64 0, .int .u64 35]) (Lw.below_alloc (Below.refl _ _) _) (heap_alloc_new w5 _) (fun k hk => Nat.le_of_eq hk.symm)); clear hb)
    | (go_at_call 16; (with_reducible refine (in_up q F2 (zerosL 2 1) iD 2 7 0 _ (skI HV3.out.i0) (by omega) (by omega) (by omega) (by omega) iu2).mono ?_); rintro e w4 ⟨rfl, F4, h1, h2, h3⟩; have HV4 := Lib.hid (HV3.out.turn_0 (skT q F4 sI 0 iD) h1 h2 h3); clear h1 h2 h3)
    | (go_at_call 16; (with_reducible refine (in_up p F1 (zerosL 2 1) iB 1 5 0 _ (skI HV2.out.i1) (by omega) (by omega) (by omega) (by omega) iu1).mono ?_); rintro e w3 ⟨rfl, F3, h1, h2, h3⟩; have HV3 := Lib.hid (HV2.out.turn_1 (skT p F3 sI 0 iB) h1 h2 h3); clear h1 h2 h3)
    | (go_at_call 14; (with_reducible refine (in_new _).mono ?_); rintro e w2 ⟨q, F2, rfl, h1, h2, hb⟩; have HV2 := Lib.hid (HV1.out.push (skT q F2 sI 0 (zerosL 2 1)) hb h1 h2); clear h1 h2 hb y0 y1 y2 y3 y4)
    | (go_at_call 14; (with_reducible refine (in_new _).mono ?_); rintro e w1 ⟨p, F1, rfl, h1, h2, hb⟩; have HV1 := Lib.hid (HV0.out.push (skT p F1 sI 0 (zerosL 2 1)) hb h1 h2); clear h1 h2 hb y0 y1 y2 y3 y4; obtain ⟨y0, y1, y2, y3, y4⟩ := box5 HV1.out.i1))
  obtain ⟨a0, a1⟩ := box2 HV9.out.i1
  obtain ⟨b0, b1⟩ := box2 HV9.out.i0
  go_region_held3 (fun w' => w'.cell? ⟨w5.heap.size, 0, none⟩ = some (.int .i64 0) ∧ w'.cell? ⟨w5.heap.size, 1, none⟩ = some (.int .u64 35) ∧ w'.cell? ⟨w7.heap.size, 0, none⟩ = some (.int .i64 (-1)) ∧ w'.cell? ⟨w7.heap.size, 1, none⟩ = some (.int .u64 18446744073709551611)) (first | (refine ⟨?_, ?_, ?_, ?_⟩ <;> (first | (with_reducible assumption) | (with_reducible refine cell_up a0 ?_) | (with_reducible refine cell_up a1 ?_) | (with_reducible refine cell_up b0 ?_) | (with_reducible refine cell_up b1 ?_)) <;> (repeat' (first | (with_reducible exact Below.refl _ _) | (with_reducible assumption) | (with_reducible refine below_over ?_ _ _) | (with_reducible refine Lw.below_alloc ?_ _) | (with_reducible refine Below.drew ?_) | (with_reducible refine below_drewN ?_ _) | (with_reducible refine Below.setCell ?_ ?_ _) | go_size)))) (first
    | (go_at_call_of 22 (Value.int .i64 35); (with_reducible refine (in_of 35 0 35 _ (by omega) (by omega) (by decide) (by decide)).mono ?_); rintro e w' ⟨rfl, hb⟩; obtain ⟨bs, d, rfl⟩ := below_grow hb; clear hb)
    | (go_at_call 22; (with_reducible refine (in_of (-5) (-1) 18446744073709551611 _ (by omega) (by omega) (by decide) (by decide)).mono ?_); rintro e w' ⟨rfl, hb⟩; obtain ⟨bs2, d2, rfl⟩ := below_grow hb; clear hb))
  all_goals go_wp2
  all_goals go_ret
  all_goals exact ⟨ret_bs (by first | rfl | (simp [*]; done)), (HV9.out.up (by repeat' (first | (with_reducible exact Below.refl _ _) | (with_reducible assumption) | (with_reducible refine below_over ?_ _ _) | (with_reducible refine Lw.below_alloc ?_ _) | (with_reducible refine Below.drew ?_) | (with_reducible refine below_drewN ?_ _) | (with_reducible refine Below.setCell ?_ ?_ _) | go_size))).below⟩
end Go.Proofs.Ythecgkgnngpikaa.Inn
/- What several laws of layer 11 share. Printed by wip/gen/innlaws.py. -/
namespace Go.Proofs.Ythecgkgnngpikaa.Inn
open Go Go.RowKit Lw Grd Lin Con Shp Sk
set_option linter.unusedVariables false
set_option linter.unusedSimpArgs false
theorem lst_int64_c : Try.prog.cellsOf 2 = 1 := by kernel_rfl
set_option maxRecDepth 100000 in
theorem open_list_int64 {H : Type} {enc : TypeId × Value → H} {W : World} {v : Value} {d : DataW H} {p : List MemPlace} {base : Nat} (hv : Value.okWide Try.prog W .any base 22 v)
    (h : DataW.Trod enc Try.prog W 0 (fun _ => true) true 22 v d p) :
    ∃ (A : Option Addr) (n cap : Nat) (zs : List Int), v = .slice A n cap ∧ (A = none → n = 0 ∧ cap = 0) ∧ n ≤ cap ∧ cap ≤ maxLen ∧ Rd .i64 W A zs ∧ zs.length = n ∧ (∀ v ∈ zs, -9223372036854775808 ≤ v ∧ v ≤ 9223372036854775807) := by
  obtain ⟨a0, len, cap, rfl⟩ := Go.WideShapes.okWide_slice Try.underlying22 hv
  obtain ⟨fuel, hf⟩ := h
  rcases Go.ChangeShapes.open_ints Try.underlying22 Try.underlying2 lst_int64_c hf with ⟨hcs, _⟩ | ⟨a, len', cap', zs, hcs, _, hl, hm, hz, _, hcell, hwz⟩
  · simp [Value.cells] at hcs
    obtain ⟨rfl, rfl, rfl⟩ := hcs
    exact ⟨none, 0, 0, [], rfl, fun _ => ⟨rfl, rfl⟩, Nat.le_refl _, by simp, rd_nil _ _ _, rfl, fun v h => by simp at h⟩
  · simp [Value.cells] at hcs
    obtain ⟨rfl, rfl, rfl⟩ := hcs
    have hz2 : zs.length = cap := by simpa using hz
    refine ⟨some a, len, cap, zs.take len, rfl, (fun h => by cases h), hl, hm, ?_, by simp; omega, ?_⟩
    · intro k v hk
      rw [List.getElem?_take] at hk
      split at hk
      · refine ⟨a, rfl, ?_⟩
        rw [hcell k (by omega)]
        simp [hk]
      · cases hk
    · intro v hv
      exact Lw.wf_i64 (hwz v (List.mem_of_mem_take hv))
theorem i64_info : (Try.prog.info? 2).map (fun i => (i.zero, i.size, i.bytes)) = some (some (.int .i64 0), 1, 8) := by kernel_rfl
theorem i64s_u : Try.prog.underlying 22 = some (.slice 2) := by kernel_rfl
theorem arr2_int_u : Try.prog.underlying 61 = some (.array 2 3) := by kernel_rfl
theorem arr2_int_c : Try.prog.cellsOf 61 = 2 := by kernel_rfl
theorem arr2_int_e : Try.prog.cellsOf 3 = 1 := by kernel_rfl
theorem arr2_int_k : Try.prog.underlying 3 = some (.int .i64) := by kernel_rfl
theorem arr2_int_l {α : Type} (T : Array α) (h : T.size = 2) : ∃ x0 x1 : α, T = #[x0, x1] := by
  obtain ⟨l⟩ := T
  match l, h with
  | [x0, x1], _ => exact ⟨x0, x1, rfl⟩
set_option maxRecDepth 100000 in
theorem open_arr2_int {H : Type} {enc : TypeId × Value → H} {W : World} {v : Value} {d : DataW H} {p : List MemPlace} {base : Nat} (hv : Value.okWide Try.prog W .any base 61 v)
    (h : DataW.Trod enc Try.prog W 0 (fun _ => true) true 61 v d p) :
    ∃ x0 x1 : Int, v = .agg #[.int .i64 x0, .int .i64 x1] ∧ (-9223372036854775808 ≤ x0 ∧ x0 ≤ 9223372036854775807) ∧ (-9223372036854775808 ≤ x1 ∧ x1 ≤ 9223372036854775807) := by
  have hcs : ∃ cs : Array Value, v = .agg cs ∧ cs.size = Try.prog.cellsOf 61 := by
    simp only [Value.okWide, arr2_int_u] at hv
    obtain ⟨cs, h1, h2, _⟩ := hv
    exact ⟨cs, h1, h2⟩
  obtain ⟨cs, rfl, hsz⟩ := hcs
  obtain ⟨c0, c1, rfl⟩ := arr2_int_l _ (hsz.trans arr2_int_c)
  obtain ⟨fuel, hf⟩ := h
  obtain ⟨xs, m, _, _, _, hlen, hg⟩ := DataW.trod_array arr2_int_u hf
  have g0 := hg 0 (by omega)
  have g1 := hg 1 (by omega)
  rw [arr2_int_e] at g0 g1
  match xs, hlen with
  | [y0, y1], _ =>
    simp [Value.cells] at g0 g1
    obtain ⟨x0, e0, _, w0⟩ := DataW.trod_int arr2_int_k g0
    obtain ⟨x1, e1, _, w1⟩ := DataW.trod_int arr2_int_k g1
    simp at e0 e1
    subst e0 e1
    exact ⟨x0, x1, rfl, Lw.wf_i64 w0, Lw.wf_i64 w1⟩
theorem three_boxs (w : World) (e1 e2 e3 : TypeId) (v1 v2 v3 : Array Value) : Have w (((w.alloc (.cells v1 e1)).alloc (.cells v2 e2)).alloc (.cells v3 e3)) [boxT (w.heap.size + 1 + 1) e3 v3, boxT (w.heap.size + 1) e2 v2, boxT w.heap.size e1 v1] := by
  refine (two_boxs w e1 e2 v1 v2).push (boxT (w.heap.size + 1 + 1) e3 v3) (Lw.below_alloc (Below.refl _ _) _) ?_ (fun k hk => ?_)
  · have h := heap_alloc_new ((w.alloc (.cells v1 e1)).alloc (.cells v2 e2)) (.cells v3 e3)
    rw [World.size_alloc, World.size_alloc] at h
    exact h
  · rw [World.size_alloc, World.size_alloc]
    exact Nat.le_of_eq hk.symm
theorem dsum_zero (n : Nat) : ∀ xs : List Int, dsum xs (List.replicate n 0) = 0 := by
  induction n with
  | zero => intro xs; rw [List.replicate_zero, dsum_r]
  | succ n ih =>
    intro xs
    match xs with
    | [] => rw [dsum_l]
    | x :: xs => rw [List.replicate_succ]; simp only [dsum, ih xs]; omega
theorem dok_zero {xs : List Int} {n : Nat} (h : xs.length = n) : dok xs (List.replicate n 0) = true := by
  refine (dok_yes (by simp [h]) fun k hk => ?_).1
  unfold dp
  rw [List.take_replicate, dsum_zero]
  decide
theorem zeros_get {m n k : Nat} {r : List Int} (h : (zerosL m n)[k]? = some r) : r = List.replicate n 0 := by
  have := List.mem_of_getElem? h
  unfold zerosL at this
  exact (List.mem_replicate.1 this).2
theorem lmin_zero : ∀ (zs : List Int), (∀ z ∈ zs, z = 0) → lmin zs = 0
  | [], _ => rfl
  | x :: zs, h => by
    have h1 := lmin_mem (zs := x :: zs) (by simp)
    exact h _ h1
/-- Of a sketch that has nothing the product is 0. -/
theorem in_zero {c : Cfg} {l : Int} (hr : IsRight c) (hm : c.md = 1) {L : List (List Int)} (h : Sz (rws c) (wds c) L) : inCode c c l l L (zerosL (rws c) (wds c)) = 0 ∧ inVal c c l l L (zerosL (rws c) (wds c)) = 0 := by
  have hz := sz_zeros (rws c) (wds c)
  have ho : oks L (zerosL (rws c) (wds c)) = true := oks_yes (by rw [h.1, hz.1]) (fun k xs ys h1 h2 => by
    rw [zeros_get h2]
    exact dok_zero (h.2 xs (List.mem_of_getElem? h1)))
  have hy := in_yes (l := l) hm ho
  refine ⟨hy.1, ?_⟩
  rw [hy.2]
  refine lmin_zero _ fun z hzz => ?_
  unfold dots at hzz
  obtain ⟨x, _, y, hy2, rfl⟩ := mem_zip hzz
  unfold zerosL at hy2
  rw [(List.mem_replicate.1 hy2).2]
  exact dsum_zero _ _
end Go.Proofs.Ythecgkgnngpikaa.Inn
