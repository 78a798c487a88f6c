/- Texts that the statement LevelPlays leans on, put together: LevShown, ColOwn, SkRef, SkDoc. -/
import Derived.Test.YtkannodfamnmcaaGreatMb
import Derived.Test.YtkannodfamnmcaaGreatMc
import Derived.Test.YtkannodfamnmcaaGreatMd
import Derived.Test.YtkannodfamnmcaaGreatMe
import Derived.Test.YtkannodfamnmcaaGreatMf
import Derived.Test.YtkannodfamnmcaaGreatMg
import Derived.Test.YtkannodfamnmcaaGreatMh
import Derived.Test.YtkannodfamnmcaaGreatQi
import Derived.Test.YtkannodfamnmcaaGreatQl
import Derived.Deep.LoopGhost
import Derived.Deep.RegionHeld3
import Derived.Deep.DeepCutAuto
import Derived.Deep.QuietTactic
import Derived.BigQuiet
import Derived.WalkSpells
namespace Go.Proofs.YtkannodfamnmcaaGreat.Lev
open Go Go.RowKit Lw Grd Lin Con Shp Sk Exa Inn
set_option linter.unusedVariables false
set_option linter.unusedSimpArgs false
def lA : Cfg := ⟨2, 2, 2, 1, 0⟩
theorem lA_ok : lA.Ok := by constructor <;> decide
theorem n0 (w : World) : Calls Tryz.prog 9 #[.agg #[.int .i64 2, .int .i64 2, .int .i64 2, .int .i64 1, .int .u64 0], .int .i64 0] w fun e w' => ∃ (p : Addr) (F : Nat → Prop), e = .returned (.tuple #[.iface 68 (.pointer (some p)), .int .i64 0]) ∧ SK w' p F lA 0 (zerosL 2 2) ∧ (∀ k, F k → w.heap.size ≤ k) ∧ Below w.heap.size w w' := vnew_S lA 0 w lA_ok (by omega) (by omega) (by decide) (by decide)
theorem n1 (w : World) : Calls Tryz.prog 9 #[.agg #[.int .i64 2, .int .i64 2, .int .i64 2, .int .i64 1, .int .u64 0], .int .i64 1] w fun e w' => ∃ (p : Addr) (F : Nat → Prop), e = .returned (.tuple #[.iface 76 (.pointer (some p)), .int .i64 0]) ∧ EX w' p F lA 1 [0, 0] ∧ (∀ k, F k → w.heap.size ≤ k) ∧ Below w.heap.size w w' := vnew_A lA 1 w lA_ok (by omega) (by omega) (by decide)
theorem n3 (w : World) : Calls Tryz.prog 9 #[.agg #[.int .i64 2, .int .i64 2, .int .i64 2, .int .i64 1, .int .u64 0], .int .i64 3] w fun e w' => e = .returned (.tuple #[.nilIface, .int .i64 1]) ∧ Below w.heap.size w w' := vnew_N lA 3 w lA_ok (by omega) (by omega) (by decide)
theorem upd_b (q : Addr) (G : Nat → Prop) (w : World) (h : EX w q G lA 1 [0, 0]) : Calls Tryz.prog 183 #[.pointer (some q), .int .u64 1, .int .i64 5] w fun e w' => e = .returned (.int .i64 0) ∧ ∃ F', EX w' q F' lA 1 [0, 5] ∧ Kept G w w' ∧ (∀ k, F' k → G k ∨ w.heap.size ≤ k) := by
  have C := eupd_any q G lA 1 [0, 0] 1 5 w h (by omega) (by omega) (by omega) (by omega)
  rw [show exCode lA.md [0, 0] 1 5 = 0 by decide, show exRes lA.md [0, 0] 1 5 = [0, 5] by decide] at C
  exact C
theorem inn_b (q : Addr) (G : Nat → Prop) (w : World) (h : EX w q G lA 1 [0, 5]) : Calls Tryz.prog 20 #[.iface 76 (.pointer (some q)), .iface 76 (.pointer (some q))] w fun e w' => e = .returned (.tuple #[.agg #[.int .i64 0, .int .u64 25], .int .i64 0]) ∧ Below w.heap.size w w' := by
  have C := vinner_A q G lA 1 [0, 5] q G [0, 5] w h h
  rw [show aiH lA.md [0, 5] [0, 5] = 0 by decide, show aiL lA.md [0, 5] [0, 5] = 25 by decide, show aiC lA.md [0, 5] [0, 5] = 0 by decide] at C
  exact C
theorem mrg_b (q : Addr) (G : Nat → Prop) (w : World) (h : EX w q G lA 1 [0, 5]) : Calls Tryz.prog 14 #[.iface 76 (.pointer (some q)), .iface 76 (.pointer (some q))] w fun e w' => e = .returned (.int .i64 0) ∧ ∃ F', EX w' q F' lA 1 [0, 10] ∧ Kept G w w' ∧ (∀ k, F' k → G k ∨ w.heap.size ≤ k) := by
  have C := vmerge_A q G lA 1 [0, 5] q G lA 1 [0, 5] w h h
  rw [show mgC 1 lA lA 1 1 [0, 5] [0, 5] = 0 by decide, show mgR 1 lA lA 1 1 [0, 5] [0, 5] = [0, 10] by decide] at C
  exact C
theorem of25 (w : World) : Calls Tryz.prog 27 #[.int .i64 25] w fun e w' => e = .returned (.agg #[.int .i64 0, .int .u64 25]) ∧ Below w.heap.size w w' := Wid.of_any 25 w (by omega) (by omega)
theorem u1 : exCode lA.md [0, 0] 1 5 = 0 ∧ exRes lA.md [0, 0] 1 5 = [0, 5] := by decide
set_option maxRecDepth 100000 in
set_option maxHeartbeats 8000000 in
theorem shown_any (w : World) : Calls Tryz.prog 7 #[] w fun e w' => e = .returned (.bool true) ∧ Below w.heap.size w w' := by
  have HV0 : Hid (Have w (w.alloc (.cells #[.int .i64 2, .int .i64 2, .int .i64 2, .int .i64 1, .int .u64 0] 24)) [boxT w.heap.size 24 #[.int .i64 2, .int .i64 2, .int .i64 2, .int .i64 1, .int .u64 0]]) := Lib.hid (box_new w _ _)
  go_enter Tryz.func7, Tryz.ntmps7
  go_upto_region 10 with (first
    | (go_at_call 26; (with_reducible refine (vmust_S p _).mono ?_); rintro e w6 ⟨rfl, hb⟩; have HV6 := Lib.hid (HV5.out.up hb); clear hb; clear c0 c1 c2 c3 c4; obtain ⟨c0, c1, c2, c3, c4⟩ := box5 HV6.out.i2)
    | (go_at_call 25; (with_reducible refine (vas_A q _).mono ?_); rintro e w5 ⟨rfl, hb⟩; have HV5 := Lib.hid (HV4.out.up hb); clear hb; clear c0 c1 c2 c3 c4; obtain ⟨c0, c1, c2, c3, c4⟩ := box5 HV5.out.i2)
    | (go_at_call 25; (with_reducible refine (vas_S p _).mono ?_); rintro e w4 ⟨rfl, hb⟩; have HV4 := Lib.hid (HV3.out.up hb); clear hb; clear c0 c1 c2 c3 c4; obtain ⟨c0, c1, c2, c3, c4⟩ := box5 HV4.out.i2)
    | (go_at_call 9; (with_reducible refine (n3 _).mono ?_); rintro e w3 ⟨rfl, hb⟩; have HV3 := Lib.hid (HV2.out.up hb); clear hb; clear c0 c1 c2 c3 c4; obtain ⟨c0, c1, c2, c3, c4⟩ := box5 HV3.out.i2)
    | (go_at_call 9; (with_reducible refine (n1 _).mono ?_); rintro e w2 ⟨q, G, rfl, h1, h2, hb⟩; have HV2 := Lib.hid (HV1.out.push (exT q G lA 1 [0, 0]) hb h1 h2); clear h1 h2 hb; clear c0 c1 c2 c3 c4; obtain ⟨c0, c1, c2, c3, c4⟩ := box5 HV2.out.i2)
    | (go_at_call 9; (with_reducible refine (n0 _).mono ?_); rintro e w1 ⟨p, F, rfl, h1, h2, hb⟩; have HV1 := Lib.hid (HV0.out.push (skT p F lA 0 (zerosL 2 2)) hb h1 h2); clear h1 h2 hb; obtain ⟨c0, c1, c2, c3, c4⟩ := box5 HV1.out.i1))
  go_upto_region 11 with (go_at_call 183; (with_reducible refine (upd_b q G _ (exI HV6.out.i0)).mono ?_); rintro e w7 ⟨rfl, G2, h1, h2, h3⟩; have HV7 := Lib.hid (HV6.out.turn_0 (exT q G2 lA 1 [0, 5]) h1 h2 h3); clear h1 h2 h3; clear c0 c1 c2 c3 c4; obtain ⟨c0, c1, c2, c3, c4⟩ := box5 HV7.out.i2)
  go_upto_region 12 with (go_at_call 20; (with_reducible refine (inn_b q G2 _ (exI HV7.out.i0)).mono ?_); rintro e w8 ⟨rfl, hb⟩; have HV8 := Lib.hid ((HV7.out.up hb).push (boxT w8.heap.size 49 #[.int .i64 0, .int .u64 25]) (Lw.below_alloc (Below.refl _ _) _) (heap_alloc_new w8 _) (fun k hk => Nat.le_of_eq hk.symm)); clear hb c0 c1 c2 c3 c4)
  obtain ⟨gx, hgx⟩ : ∃ gx, w8.heap.size = gx := ⟨_, rfl⟩
  rw [hgx] at HV8 ⊢
  have r0 := box_cell (i := 0) HV8.out.i0 rfl
  have r1 := box_cell (i := 1) HV8.out.i0 rfl
  go_region_held3 (fun w' => w'.cell? ⟨gx, 0, none⟩ = some (.int .i64 0) ∧ w'.cell? ⟨gx, 1, none⟩ = some (.int .u64 25)) (first | (refine ⟨?_, ?_⟩ <;> (first | (with_reducible assumption) | (with_reducible refine cell_up r0 ?_) | (with_reducible refine cell_up r1 ?_)) <;> (repeat' (first | (with_reducible exact Below.refl _ _) | (with_reducible assumption) | (with_reducible refine below_over ?_ _ _) | (with_reducible refine Lw.below_alloc ?_ _) | (with_reducible refine Below.drew ?_) | (with_reducible refine below_drewN ?_ _) | (with_reducible refine Below.setCell ?_ ?_ _) | go_size)))) (first
    | (go_at_call 27; (with_reducible refine (of25 _).mono ?_); rintro e w' ⟨rfl, hb⟩; obtain ⟨bs1, dd1, rfl⟩ := below_grow hb; clear hb)
    | (go_at_call_of 14 (Value.iface 68 (.pointer (some p))); (with_reducible refine (vmerge_SA p q _).mono ?_); rintro e w' ⟨rfl, hb⟩; obtain ⟨bs2, dd2, rfl⟩ := below_grow hb; clear hb)
    | (go_at_call_of 14 (Value.iface 76 (.pointer (some q))); (with_reducible refine (mrg_b q G2 _ (exI (HV8.out.up (by repeat' (first | (with_reducible exact Below.refl _ _) | (with_reducible assumption) | (with_reducible refine below_over ?_ _ _) | (with_reducible refine Lw.below_alloc ?_ _) | (with_reducible refine Below.drew ?_) | (with_reducible refine below_drewN ?_ _) | (with_reducible refine Below.setCell ?_ ?_ _) | go_size))).i1)).mono ?_); rintro e w9 ⟨rfl, G3, h1, h2, h3⟩; have HV9 := Lib.hid ((HV8.out.up (by repeat' (first | (with_reducible exact Below.refl _ _) | (with_reducible assumption) | (with_reducible refine below_over ?_ _ _) | (with_reducible refine Lw.below_alloc ?_ _) | (with_reducible refine Below.drew ?_) | (with_reducible refine below_drewN ?_ _) | (with_reducible refine Below.setCell ?_ ?_ _) | go_size))).turn_1 (exT q G3 lA 1 [0, 10]) h1 h2 h3); clear h1 h2 h3 r0 r1; have r0 := box_cell (i := 0) HV9.out.i0 rfl; have r1 := box_cell (i := 1) HV9.out.i0 rfl))
  all_goals go_wp2
  all_goals go_ret
  all_goals exact ⟨ret_bs (by first | rfl | (simp [*]; done)), (HV9.out.up (by repeat' (first | (with_reducible exact Below.refl _ _) | (with_reducible assumption) | (with_reducible refine below_over ?_ _ _) | (with_reducible refine Lw.below_alloc ?_ _) | (with_reducible refine Below.drew ?_) | (with_reducible refine below_drewN ?_ _) | (with_reducible refine Below.setCell ?_ ?_ _) | go_size))).below⟩
end Go.Proofs.YtkannodfamnmcaaGreat.Lev
/- The document's Columns: its row lies in a block of its own. Printed by wip/gen/skref.py. -/
namespace Go.Proofs.YtkannodfamnmcaaGreat.Shp
open Go Go.RowKit Lw
set_option linter.unusedVariables false
set_option linter.unusedSimpArgs false
set_option maxRecDepth 100000 in
set_option maxHeartbeats 2000000 in
theorem rcols_own (c : Cfg) (l k : Int) (w : World) (h : c.Ok) (l0 : -9223372036854775808 ≤ l) (l1 : l ≤ 9223372036854775807) (k0 : 0 ≤ k) (k1 : k ≤ 18446744073709551615) :
    Calls Tryz.prog 61 #[.agg #[.int .i64 c.bt, .int .i64 c.rw, .int .i64 c.wd, .int .i64 c.md, .int .u64 c.sd], .int .i64 l, .int .u64 k] w fun e w' => ∃ (A : Addr) (cap : Nat), e = .returned (.slice (some A) (cols c l k).length cap) ∧ Rd .i64 w' (some A) (cols c l k) ∧ (cols c l k).length ≤ cap ∧ cap ≤ maxLen ∧ w.heap.size ≤ A.block ∧ Below w.heap.size w w' := by
  obtain ⟨i0, hi, hi0, hi1, hi2⟩ := info_parts int_info
  have HO := Lib.hid h
  obtain ⟨b0, b1, r0, r1, w0, w1, m0, m1, s0, s1⟩ := h
  have hkl := keys_bd c l
  have hpos := keys_pos (c := c) (l := l)
  have HY := Lib.hid (@cols_yes c l k)
  have HNo := Lib.hid (@cols_no c l k)
  obtain ⟨K, hK⟩ : ∃ K, keys c l = K := ⟨_, rfl⟩
  rw [hK] at hkl hpos HY HNo
  by_cases h1 : k < K
  · obtain ⟨hr, hl0, hl1⟩ := hpos.1 (by omega)
    have hb59 := hr.2.1
    have hr1 := hr.2.2.1
    have hr2 := hr.2.2.2.1
    have HC := Lib.hid (HY.out h1)
    obtain ⟨R, hR⟩ : ∃ R : Nat, c.rw = R := ⟨c.rw.toNat, by omega⟩
    have HR : Hid (c.rw.toNat = R) := Lib.hid (by omega)
    have hR8 : R ≤ 8 := by omega
    have HRW := Lib.hid hR
    clear hpos hr hR
    go_enter Tryz.func61, Tryz.ntmps61
    go_wp2_with (go_at_call 34; (with_reducible refine (rkeys_any c l _ HO.out l0 l1).mono ?_); rintro e w' ⟨he, hb⟩; rw [hK] at he; subst he; obtain ⟨bs, d, rfl⟩ := below_grow hb; clear hb)
    obtain ⟨wK, hw1⟩ : ∃ wK : World, wK = grow ((w.alloc (.cells #[.int .i64 c.bt, .int .i64 c.rw, .int .i64 c.wd, .int .i64 c.md, .int .u64 c.sd] 24)).alloc (.cells #[] 3)) bs d := ⟨_, rfl⟩
    have hwb : Below w.heap.size w wK := by rw [hw1]; repeat' (first | (with_reducible exact Below.refl _ _) | (with_reducible assumption) | (with_reducible refine below_over ?_ _ _) | (with_reducible refine Lw.below_alloc ?_ _) | (with_reducible refine Below.drew ?_) | (with_reducible refine below_drewN ?_ _) | (with_reducible refine Below.setCell ?_ ?_ _) | go_size)
    have hwc : wK.heap[w.heap.size]? = some (.cells #[.int .i64 c.bt, .int .i64 c.rw, .int .i64 c.wd, .int .i64 c.md, .int .u64 c.sd] 24 (0, 0)) := by
      rw [hw1, (grow_below _ bs d).block _ (by simp), (Lw.below_alloc (Below.refl (w.alloc (.cells #[.int .i64 c.bt, .int .i64 c.rw, .int .i64 c.wd, .int .i64 c.md, .int .u64 c.sd] 24)).heap.size _) _).block _ (by simp)]
      exact heap_alloc_new w _
    have hwo : wK.ownsRow (w.heap.size + 1) 3 1 (.slice (some ⟨w.heap.size + 1, 0, none⟩) 0 0) 0 (([] : List Int).map (Value.int .i64)) := by
      rw [hw1]
      have h := own_empty (w.alloc (.cells #[.int .i64 c.bt, .int .i64 c.rw, .int .i64 c.wd, .int .i64 c.md, .int .u64 c.sd] 24)) 3 1 (w.heap.size + 1) (by simp)
      have e : (w.alloc (.cells #[.int .i64 c.bt, .int .i64 c.rw, .int .i64 c.wd, .int .i64 c.md, .int .u64 c.sd] 24)).heap.size = w.heap.size + 1 := by simp
      rw [e] at h
      exact (Kept.of_below (F := fun _ => False) (grow_below _ bs d)).own h (fun _ _ h => h)
    rw [← hw1]
    clear hw1
    have HW := Lib.hid hwb
    have HX := Lib.hid hwc
    have HY2 := Lib.hid hwo
    clear hwb hwc hwo
    go_loopw [7, 8] (fun v i wr => ∃ (r g cp : Nat), r ≤ R ∧ i = .int .i64 r ∧ v = .slice (some ⟨g, 0, none⟩) r cp ∧ wr.ownsRow (w.heap.size + 1) 3 1 v r (((List.range r).map (col c l k)).map (Value.int .i64)) ∧ wr.heap[w.heap.size]? = some (.cells #[.int .i64 c.bt, .int .i64 c.rw, .int .i64 c.wd, .int .i64 c.md, .int .u64 c.sd] 24 (0, 0)) ∧ Below w.heap.size w wr) (fun _ i _ => R - (intOf i).toNat)
    case atStart => exact ⟨0, _, 0, Nat.zero_le _, rfl, rfl, HY2.out, HX.out, HW.out⟩
    case round =>
      obtain ⟨r, g, cp, hrR, rfl, rfl, hown, hbox, hbel⟩ := hrel
      have hwl : w.heap.size < wr.heap.size := by
        rcases Nat.lt_or_ge w.heap.size wr.heap.size with h | h
        · exact h
        · rw [Array.getElem?_eq_none h] at hbox; cases hbox
      have x1 : wr.cell? ⟨w.heap.size, 1, none⟩ = some (.int .i64 c.rw) := by simp [World.cell?, hbox]
      have x2 : wr.cell? ⟨w.heap.size, 2, none⟩ = some (.int .i64 c.wd) := by simp [World.cell?, hbox]
      have x4 : wr.cell? ⟨w.heap.size, 4, none⟩ = some (.int .u64 c.sd) := by simp [World.cell?, hbox]
      have HOW := Lib.hid hown
      have HBX := Lib.hid hbox
      have HBL := Lib.hid hbel
      clear hown hbox hbel
      rw [HRW.out] at x1
      by_cases hlt : r < R
      · obtain ⟨pa, hpa⟩ : ∃ pa, Sed.pairA c.sd l r = pa := ⟨_, rfl⟩
        obtain ⟨pb, hpb⟩ : ∃ pb, Sed.pairB c.sd l r = pb := ⟨_, rfl⟩
        have ba := Sed.pairA_bd c.sd l r
        have bb := Sed.pairB_bd c.sd l r
        have hok : Sed.okRow l r := ⟨hl0, by have := b1; omega, by omega, by omega⟩
        have ba := ba hok
        have bb := bb hok
        rw [hpa] at ba
        rw [hpb] at bb
        obtain ⟨X, hX⟩ : ∃ X, Hsh.buck pa pb k c.wd = X := ⟨_, rfl⟩
        have hcol : col c l k r = X := by unfold col; rw [hpa, hpb, hX]
        have HN := Lib.hid (range_next (col c l k) r)
        rw [hcol] at HN
        clear hcol hok
        go_wp2_with (first
          | (go_at_call 95; (with_reducible refine (Sed.rpair_any c.sd l r _ l0 l1 (by omega) (by omega)).mono ?_); rintro e w' ⟨he, rfl⟩; rw [hpa, hpb] at he; subst he)
          | (go_at_call 96; (with_reducible refine (Hsh.rbucket_any pa pb k c.wd _ (by omega) (by omega) (by omega) (by omega) k0 k1 w0 w1).mono ?_); rintro e w' ⟨he, rfl⟩; rw [hX] at he; subst he)
          | (at_builtin; (refine app_one .i64 rfl _ _ 122 rfl (w.heap.size + 1) 3 i0 8 ints_u hi hi0 hi1 hi2 (.slice (some ⟨g, 0, none⟩) r cp) r ((List.range r).map (col c l k)) rfl (HOW.out.alloc _) X wr.heap.size rfl (cell_one_new _ _ _) (by unfold maxLen; omega) (by omega) (by simp; omega) ?_); intro v1 w2 own1 grow1 oth1; obtain ⟨gg, cc, rfl, hgg, hgl⟩ := own1.form (by omega)))
        go_roundw
        case rel =>
          have hge := own_ge HOW.out
          refine ⟨r + 1, gg, cc, by omega, by go_num, rfl, by rw [HN.out]; exact own1, ?_, ?_⟩
          · refine ((Kept.refl (fun q => q = g) _).grown grow1 (fun q hq => .inl (by simpa [Value.ownBlock] using hq.symm))).heap (o := _) ?_ (by have := hge g rfl; omega)
            rw [(Lw.below_alloc (Below.refl wr.heap.size wr) _).block _ hwl]
            exact HBX.out
          · exact app_below3 (Lw.below_alloc HBL.out _) grow1 (fun q hq => by have := hge q hq; omega)
        case measure => simp [intOf]; omega
      · have e : r = R := by omega
        subst e
        obtain ⟨A, cp2, hv, hrd, h2, h3, h4⟩ := own_rd HOW.out
        injection hv with hv1 hv2 hv3
        subst hv1 hv3
        have hlen : ((List.range r).map (col c l k)).length = r := by simp
        have HCC : Hid (cols c l k = (List.range r).map (col c l k)) := Lib.hid (by rw [HC.out, HR.out])
        have HRD := Lib.hid hrd
        clear hrd h4
        go_wp2
        go_ret
        exact ⟨⟨g, 0, none⟩, cp, by rw [HCC.out, hlen]; rfl, by rw [HCC.out]; exact HRD.out, by rw [HCC.out, hlen]; exact h2, h3, by have := own_ge HOW.out g rfl; show w.heap.size ≤ g; omega, HBL.out⟩
  · have HC := Lib.hid (HNo.out h1)
    clear hpos
    go_enter Tryz.func61, Tryz.ntmps61
    go_wp2_with (go_at_call 34; (with_reducible refine (rkeys_any c l _ HO.out l0 l1).mono ?_); rintro e w' ⟨he, hb⟩; rw [hK] at he; subst he; obtain ⟨bs, d, rfl⟩ := below_grow hb; clear hb)
    all_goals go_ret
    all_goals refine ⟨⟨w.heap.size + 1, 0, none⟩, 0, by rw [HC.out]; rfl, by rw [HC.out]; exact rd_nil _ _ _, by rw [HC.out]; exact Nat.le_refl _, by decide, Nat.le_succ _, ?_⟩
    all_goals (repeat' (first | (with_reducible exact Below.refl _ _) | (with_reducible assumption) | (with_reducible refine below_over ?_ _ _) | (with_reducible refine Lw.below_alloc ?_ _) | (with_reducible refine Below.drew ?_) | (with_reducible refine below_drewN ?_ _) | (with_reducible refine Below.setCell ?_ ?_ _) | go_size))
end Go.Proofs.YtkannodfamnmcaaGreat.Shp
/- The document's sketch: a block of its config, its level and its grid; New, Update. Printed by wip/gen/skref.py. -/
namespace Go.Proofs.YtkannodfamnmcaaGreat.Sk
open Go Go.RowKit Lw Grd Lin Con Shp
set_option linter.unusedVariables false
set_option linter.unusedSimpArgs false
/-- A sketch of the document at p, in the blocks F. -/
def DS (w : World) (p : Addr) (F : Nat → Prop) (c : Cfg) (l : Int) (L : List (List Int)) : Prop :=
  IsRight c ∧ c.Ok ∧ 0 ≤ l ∧ l ≤ c.bt ∧ ∃ (b : Nat) (gp : Addr) (G : Nat → Prop), p = ⟨b, 0, none⟩ ∧ w.heap[b]? = some (.cells #[.int .i64 c.bt, .int .i64 c.rw, .int .i64 c.wd, .int .i64 c.md, .int .u64 c.sd, .int .i64 l, .pointer (some gp)] 107 (0, 0)) ∧ DG w gp G (rws c) (wds c) L ∧ ¬ G b ∧ F = (fun k => k = b ∨ G k)
theorem DS.keep {w' : World} {H : Nat → Prop} {w : World} {p : Addr} {F : Nat → Prop} {c : Cfg} {l : Int} {L : List (List Int)} (h : DS w p F c l L) (hk : Kept H w w') (hf : ∀ k, F k → ¬ H k) : DS w' p F c l L := by
  obtain ⟨hr, hok, hl0, hl1, b, gp, G, rfl, hb, hg, hGb, rfl⟩ := h
  exact ⟨hr, hok, hl0, hl1, b, gp, G, rfl, hk.heap hb (hf b (.inl rfl)), (dgT gp G _ _ L).keep w w' H hg hk (fun k h => hf k (.inr h)), hGb, rfl⟩
theorem DS.up {w' : World} {w : World} {p : Addr} {F : Nat → Prop} {c : Cfg} {l : Int} {L : List (List Int)} (h : DS w p F c l L) (hk : Below w.heap.size w w') : DS w' p F c l L := h.keep (Kept.of_below (F := fun _ => False) hk) (fun _ _ h => h)
theorem DS.lt {w : World} {p : Addr} {F : Nat → Prop} {c : Cfg} {l : Int} {L : List (List Int)} (h : DS w p F c l L) (k : Nat) (hk : F k) : k < w.heap.size := by
  obtain ⟨hr, hok, hl0, hl1, b, gp, G, rfl, hb, hg, hGb, rfl⟩ := h
  rcases hk with rfl | hk
  · exact size_of_heap hb
  · exact (dgT gp G _ _ L).lt w hg k hk
def dsT (p : Addr) (F : Nat → Prop) (c : Cfg) (l : Int) (L : List (List Int)) : Thing where
  I := fun w => DS w p F c l L
  F := F
  keep := fun w w' H h hk hf => h.keep hk hf
  lt := fun w h k hk => h.lt k hk
theorem dsI {w : World} {p : Addr} {F : Nat → Prop} {c : Cfg} {l : Int} {L : List (List Int)} (h : (dsT p F c l L).I w) : DS w p F c l L := h
theorem ds_turn {w w' : World} {b : Nat} {gp : Addr} {G G' : Nat → Prop} {c : Cfg} {l : Int} {L : List (List Int)} (hr : IsRight c) (hok : c.Ok) (hl0 : 0 ≤ l) (hl1 : l ≤ c.bt)
    (hb : w.heap[b]? = some (.cells #[.int .i64 c.bt, .int .i64 c.rw, .int .i64 c.wd, .int .i64 c.md, .int .u64 c.sd, .int .i64 l, .pointer (some gp)] 107 (0, 0))) (hGb : ¬ G b) (g' : DG w' gp G' (rws c) (wds c) L) (hk : Kept G w w') (hG : ∀ k, G' k → G k ∨ w.heap.size ≤ k) :
    ∃ F', DS w' ⟨b, 0, none⟩ F' c l L ∧ Kept (fun k => k = b ∨ G k) w w' ∧ (∀ q, F' q → (q = b ∨ G q) ∨ w.heap.size ≤ q) := by
  have hbl := size_of_heap hb
  refine ⟨_, ⟨hr, hok, hl0, hl1, b, gp, G', rfl, hk.heap hb hGb, g', fun h => ?_, rfl⟩, hk.mono (fun k _ h => .inr h), fun q hq => ?_⟩
  · rcases hG b h with h1 | h1
    · exact hGb h1
    · omega
  · rcases hq with rfl | h1
    · exact .inl (.inl rfl)
    · rcases hG q h1 with h2 | h2
      · exact .inl (.inr h2)
      · exact .inr h2
theorem dg_alloc {w : World} {p : Addr} {F : Nat → Prop} {m n : Nat} {L : List (List Int)} (h : DG w p F m n L) (o : Obj) : DG (w.alloc o) p F m n L := dg_up h (Lw.below_alloc (Below.refl _ _) o)
set_option maxRecDepth 100000 in
theorem rsnew_any (c : Cfg) (l : Int) (w : World) (h : c.Ok) (hr : IsRight c) (l0 : 0 ≤ l) (l1 : l ≤ c.bt) :
    Calls Tryz.prog 35 #[.agg #[.int .i64 c.bt, .int .i64 c.rw, .int .i64 c.wd, .int .i64 c.md, .int .u64 c.sd], .int .i64 l] w fun e w' => ∃ (p : Addr) (F : Nat → Prop), e = .returned (.pointer (some p)) ∧ DS w' p F c l (zerosL (rws c) (wds c)) ∧ (∀ k, F k → w.heap.size ≤ k) ∧ Below w.heap.size w w' := by
  have hw1 := rws_bd hr
  have hw2 := wds_bd hr
  have N := Lib.hid (fun w => dnew_any c.rw c.wd w h.r0 h.r1 h.w0 h.w1)
  have e1 : cl c.rw 8 = rws c := cl_of (by omega) (by omega)
  have e2 : cl c.wd 128 = wds c := cl_of (by omega) (by omega)
  rw [e1, e2] at N
  have HR := Lib.hid (And.intro hr (And.intro l0 l1))
  clear hr hw1 hw2 e1 e2 l0 l1
  go_enter Tryz.func35, Tryz.ntmps35
  go_upto_region 1 with fail
  obtain ⟨w1, hw1⟩ : ∃ w1, w1 = w.alloc (.cells #[.int .i64 c.bt, .int .i64 c.rw, .int .i64 c.wd, .int .i64 c.md, .int .u64 c.sd] 24) := ⟨_, rfl⟩
  have HB1 : Hid (Below w.heap.size w w1) := Lib.hid (by rw [hw1]; (repeat' (first | (with_reducible exact Below.refl _ _) | (with_reducible assumption) | (with_reducible refine below_over ?_ _ _) | (with_reducible refine Lw.below_alloc ?_ _) | (with_reducible refine Below.drew ?_) | (with_reducible refine below_drewN ?_ _) | (with_reducible refine Below.setCell ?_ ?_ _) | go_size)))
  have x0 : w1.cell? ⟨w.heap.size, 0, none⟩ = some (.int .i64 c.bt) := by rw [hw1]; simp [go_sem]
  have x1 : w1.cell? ⟨w.heap.size, 1, none⟩ = some (.int .i64 c.rw) := by rw [hw1]; simp [go_sem]
  have x2 : w1.cell? ⟨w.heap.size, 2, none⟩ = some (.int .i64 c.wd) := by rw [hw1]; simp [go_sem]
  have x3 : w1.cell? ⟨w.heap.size, 3, none⟩ = some (.int .i64 c.md) := by rw [hw1]; simp [go_sem]
  have x4 : w1.cell? ⟨w.heap.size, 4, none⟩ = some (.int .u64 c.sd) := by rw [hw1]; simp [go_sem]
  rw [← hw1]
  clear hw1
  go_region_held3 (fun w' => w'.cell? ⟨w.heap.size, 0, none⟩ = some (.int .i64 c.bt) ∧ w'.cell? ⟨w.heap.size, 1, none⟩ = some (.int .i64 c.rw) ∧ w'.cell? ⟨w.heap.size, 2, none⟩ = some (.int .i64 c.wd) ∧ w'.cell? ⟨w.heap.size, 3, none⟩ = some (.int .i64 c.md) ∧ w'.cell? ⟨w.heap.size, 4, none⟩ = some (.int .u64 c.sd)) (first | (refine ⟨?_, ?_, ?_, ?_, ?_⟩ <;> (first | (with_reducible assumption) | (with_reducible refine cell_up x0 ?_) | (with_reducible refine cell_up x1 ?_) | (with_reducible refine cell_up x2 ?_) | (with_reducible refine cell_up x3 ?_) | (with_reducible refine cell_up x4 ?_)) <;> repeat' (first | (with_reducible exact Below.refl _ _) | (with_reducible assumption) | (with_reducible refine below_over ?_ _ _) | (with_reducible refine Lw.below_alloc ?_ _) | (with_reducible refine Below.drew ?_) | (with_reducible refine below_drewN ?_ _) | (with_reducible refine Below.setCell ?_ ?_ _) | go_size))) (first
    | (go_at_call 60; (with_reducible refine (N.out _).mono ?_); rintro e w2 ⟨gp, G, rfl, hg, hG, hb2⟩; obtain ⟨bs2, d2, rfl⟩ := below_grow hb2; have HG := Lib.hid hg; have HF := Lib.hid hG; have HB2 := Lib.hid hb2; clear hg hG hb2))
  all_goals go_wp2
  all_goals go_ret
  have hgl := fun k (hk : G k) => (dgT gp G _ _ _).lt _ HG.out k hk
  rw [size_grow] at hgl
  have hn := heap_alloc_new (grow w1 bs2 d2) (.cells #[.int .i64 c.bt, .int .i64 c.rw, .int .i64 c.wd, .int .i64 c.md, .int .u64 c.sd, .int .i64 l, .pointer (some gp)] 107)
  rw [size_grow] at hn
  have hs := HB1.out.size
  have hz : w1.drew.heap.size = w1.heap.size := rfl
  rw [hz] at hgl
  refine ⟨⟨w1.heap.size + bs2.size, 0, none⟩, fun k => k = w1.heap.size + bs2.size ∨ G k, rfl, ⟨HR.out.1, h, HR.out.2.1, HR.out.2.2, _, gp, G, rfl, hn, dg_alloc HG.out _, fun hk => by have := hgl _ hk; omega, rfl⟩, fun k hk => ?_, ?_⟩
  · rcases hk with rfl | hk
    · omega
    · have := HF.out k hk; rw [hz] at this; omega
  · exact (below_call (Below.drew HB1.out) HB2.out (Nat.le_refl _)).alloc (by rw [size_grow]; omega) _
set_option maxRecDepth 100000 in
set_option maxHeartbeats 4000000 in
theorem rsupd_any (p : Addr) (F : Nat → Prop) (c : Cfg) (l : Int) (L : List (List Int)) (k d : Int) (w : World) (h : DS w p F c l L) (k0 : 0 ≤ k) (k1 : k ≤ 18446744073709551615) (d0 : -9223372036854775808 ≤ d) (d1 : d ≤ 9223372036854775807) :
    Calls Tryz.prog 41 #[.pointer (some p), .int .u64 k, .int .i64 d] w fun e w' => e = .returned (.int .i64 (upCode c l L k d)) ∧ ∃ F', DS w' p F' c l (upRes c l L k d) ∧ Kept F w w' ∧ (∀ q, F' q → F q ∨ w.heap.size ≤ q) := by
  unfold upCode upRes
  have HS := Lib.hid h
  obtain ⟨hr, hok, hl0, hl1, b, gp, G, rfl, hb, hg, hGb, rfl⟩ := h
  have hbl := size_of_heap hb
  have c0 := grd_cell hb 0 (v := .int .i64 c.bt) rfl
  have c1 := grd_cell hb 1 (v := .int .i64 c.rw) rfl
  have c2 := grd_cell hb 2 (v := .int .i64 c.wd) rfl
  have c3 := grd_cell hb 3 (v := .int .i64 c.md) rfl
  have c4 := grd_cell hb 4 (v := .int .u64 c.sd) rfl
  have c5 := grd_cell hb 5 (v := .int .i64 l) rfl
  have c6 := grd_cell hb 6 (v := .pointer (some gp)) rfl
  have hbt := hr.2.1
  have CK := Lib.hid (fun w => rkeys_any c l w hok (by omega) (by omega))
  have CC := Lib.hid (fun w => rcols_own c l k w hok (by omega) (by omega) k0 k1)
  have HT : Hid (∀ w' G' L', DG w' gp G' (rws c) (wds c) L' → Kept G w w' → (∀ k, G' k → G k ∨ w.heap.size ≤ k) → ∃ F', DS w' ⟨b, 0, none⟩ F' c l L' ∧ Kept (fun k => k = b ∨ G k) w w' ∧ (∀ q, F' q → (q = b ∨ G q) ∨ w.heap.size ≤ q)) := Lib.hid (fun w' G' L' h1 h2 h3 => ds_turn hr hok hl0 hl1 hb hGb h1 h2 h3)
  have hrw := rws_bd hr
  by_cases hk : keys c l ≤ k
  · rw [if_pos hk, if_pos hk]
    obtain ⟨K, hK⟩ : ∃ K, keys c l = K := ⟨_, rfl⟩
    rw [hK] at hk CK
    clear hb hg hrw hK
    go_enter Tryz.func41, Tryz.ntmps41
    go_upto_region 1 with fail
    go_region_held3 (fun w' => w'.cell? ⟨b, 0, none⟩ = some (.int .i64 c.bt) ∧ w'.cell? ⟨b, 1, none⟩ = some (.int .i64 c.rw) ∧ w'.cell? ⟨b, 2, none⟩ = some (.int .i64 c.wd) ∧ w'.cell? ⟨b, 3, none⟩ = some (.int .i64 c.md) ∧ w'.cell? ⟨b, 4, none⟩ = some (.int .u64 c.sd) ∧ w'.cell? ⟨b, 5, none⟩ = some (.int .i64 l)) (first | (refine ⟨?_, ?_, ?_, ?_, ?_, ?_⟩ <;> (first | (with_reducible assumption) | (with_reducible refine cell_up c0 ?_) | (with_reducible refine cell_up c1 ?_) | (with_reducible refine cell_up c2 ?_) | (with_reducible refine cell_up c3 ?_) | (with_reducible refine cell_up c4 ?_) | (with_reducible refine cell_up c5 ?_)) <;> repeat' (first | (with_reducible exact Below.refl _ _) | (with_reducible assumption) | (with_reducible refine below_over ?_ _ _) | (with_reducible refine Lw.below_alloc ?_ _) | (with_reducible refine Below.drew ?_) | (with_reducible refine below_drewN ?_ _) | (with_reducible refine Below.setCell ?_ ?_ _) | go_size))) (first
      | (go_at_call 34; (with_reducible refine (CK.out _).mono ?_); rintro e w' ⟨rfl, hb⟩; obtain ⟨bs, dd, rfl⟩ := below_grow hb; clear hb))
    all_goals go_wp2
    all_goals go_ret
    all_goals exact ⟨rfl, _, HS.out.up (by repeat' (first | (with_reducible exact Below.refl _ _) | (with_reducible assumption) | (with_reducible refine below_over ?_ _ _) | (with_reducible refine Lw.below_alloc ?_ _) | (with_reducible refine Below.drew ?_) | (with_reducible refine below_drewN ?_ _) | (with_reducible refine Below.setCell ?_ ?_ _) | go_size)), Kept.of_below (by repeat' (first | (with_reducible exact Below.refl _ _) | (with_reducible assumption) | (with_reducible refine below_over ?_ _ _) | (with_reducible refine Lw.below_alloc ?_ _) | (with_reducible refine Below.drew ?_) | (with_reducible refine below_drewN ?_ _) | (with_reducible refine Below.setCell ?_ ?_ _) | go_size)), fun q hq => .inl hq⟩
  · rw [if_neg hk, if_neg hk]
    have hk2 : k < keys c l := by omega
    have hlen : (cols c l k).length = rws c := (cols_meet k0 hk2).2.1
    have CR := Lib.hid (fun A cap w' hd h1 hap => rraise_any gp G (rws c) (wds c) L (some A) (rws c) cap (cols c l k) d w' hd h1 hap hlen (by omega) (in64_cols c l k) d0 d1)
    have CH := Lib.hid (fun A cap w' hd h1 hap => rchange_any gp G (rws c) (wds c) L (some A) (rws c) cap (cols c l k) d w' hd h1 hap hlen (by omega) (in64_cols c l k) d0 d1)
    have GL := Lib.hid (fun q (hq : G q) => (dgT gp G _ _ L).lt w hg q hq)
    have HG := Lib.hid hg
    rw [hlen] at CC
    obtain ⟨K, hK⟩ : ∃ K, keys c l = K := ⟨_, rfl⟩
    rw [hK] at hk2 CK
    obtain ⟨n, hn⟩ : ∃ n, rws c = n := ⟨_, rfl⟩
    rw [hn] at CC CR CH HT HG ⊢
    have hkx : ¬ K ≤ k := by omega
    have hgb : decide (K ≤ k) = false := decide_eq_false hkx
    have HB := Lib.hid hb
    clear hb hg hrw hK hk hlen hn
    by_cases hm : c.md = 2
    · rw [if_pos hm, if_pos hm]
      have hmb : (c.md == 2) = true := by simp [hm]
      clear hm
      go_enter Tryz.func41, Tryz.ntmps41
      go_upto_region 1 with fail
      go_region_held3 (fun w' => w'.cell? ⟨b, 0, none⟩ = some (.int .i64 c.bt) ∧ w'.cell? ⟨b, 1, none⟩ = some (.int .i64 c.rw) ∧ w'.cell? ⟨b, 2, none⟩ = some (.int .i64 c.wd) ∧ w'.cell? ⟨b, 3, none⟩ = some (.int .i64 c.md) ∧ w'.cell? ⟨b, 4, none⟩ = some (.int .u64 c.sd) ∧ w'.cell? ⟨b, 5, none⟩ = some (.int .i64 l)) (first | (refine ⟨?_, ?_, ?_, ?_, ?_, ?_⟩ <;> (first | (with_reducible assumption) | (with_reducible refine cell_up c0 ?_) | (with_reducible refine cell_up c1 ?_) | (with_reducible refine cell_up c2 ?_) | (with_reducible refine cell_up c3 ?_) | (with_reducible refine cell_up c4 ?_) | (with_reducible refine cell_up c5 ?_)) <;> repeat' (first | (with_reducible exact Below.refl _ _) | (with_reducible assumption) | (with_reducible refine below_over ?_ _ _) | (with_reducible refine Lw.below_alloc ?_ _) | (with_reducible refine Below.drew ?_) | (with_reducible refine below_drewN ?_ _) | (with_reducible refine Below.setCell ?_ ?_ _) | go_size))) (first
        | (go_at_call 34; (with_reducible refine (CK.out _).mono ?_); rintro e w' ⟨rfl, hb⟩; obtain ⟨bs, dd, rfl⟩ := below_grow hb; clear hb))
      obtain ⟨w1, hw1⟩ : ∃ w1, w1 = (grow w.drew bs dd) := ⟨_, rfl⟩
      go_upto_region 3 with fail
      go_region_held3 (fun w' => w'.cell? ⟨b, 0, none⟩ = some (.int .i64 c.bt) ∧ w'.cell? ⟨b, 1, none⟩ = some (.int .i64 c.rw) ∧ w'.cell? ⟨b, 2, none⟩ = some (.int .i64 c.wd) ∧ w'.cell? ⟨b, 3, none⟩ = some (.int .i64 c.md) ∧ w'.cell? ⟨b, 4, none⟩ = some (.int .u64 c.sd) ∧ w'.cell? ⟨b, 5, none⟩ = some (.int .i64 l)) (first | (refine ⟨?_, ?_, ?_, ?_, ?_, ?_⟩ <;> (first | (with_reducible assumption) | (with_reducible refine cell_up c0 ?_) | (with_reducible refine cell_up c1 ?_) | (with_reducible refine cell_up c2 ?_) | (with_reducible refine cell_up c3 ?_) | (with_reducible refine cell_up c4 ?_) | (with_reducible refine cell_up c5 ?_)) <;> repeat' (first | (with_reducible exact Below.refl _ _) | (with_reducible assumption) | (with_reducible refine below_over ?_ _ _) | (with_reducible refine Lw.below_alloc ?_ _) | (with_reducible refine Below.drew ?_) | (with_reducible refine below_drewN ?_ _) | (with_reducible refine Below.setCell ?_ ?_ _) | go_size))) (first
        | (go_at_call 61; (with_reducible refine (CC.out _).mono ?_); rintro e w2 ⟨A, cap, rfl, h1, h2, h3, h4, hb⟩; have RD := Lib.hid h1; have HA : Hid (w.heap.size ≤ A.block) := Lib.hid (Nat.le_trans (Below.size (show Below w.heap.size w _ from (by repeat' (first | (with_reducible exact Below.refl _ _) | (with_reducible assumption) | (with_reducible refine below_over ?_ _ _) | (with_reducible refine Lw.below_alloc ?_ _) | (with_reducible refine Below.drew ?_) | (with_reducible refine below_drewN ?_ _) | (with_reducible refine Below.setCell ?_ ?_ _) | go_size)))) h4); have HB2 : Hid (Below w.heap.size w w2) := Lib.hid (below_call (show Below w.heap.size w _ from (by repeat' (first | (with_reducible exact Below.refl _ _) | (with_reducible assumption) | (with_reducible refine below_over ?_ _ _) | (with_reducible refine Lw.below_alloc ?_ _) | (with_reducible refine Below.drew ?_) | (with_reducible refine below_drewN ?_ _) | (with_reducible refine Below.setCell ?_ ?_ _) | go_size))) hb (Nat.le_refl _)); clear h1 h2 h3 h4 hb; have hbw2 := HB2.out))
      have s3 := cell_up c3 HB2.out
      have s6 := cell_up c6 HB2.out
      clear c0 c1 c2 c3 c4 c5 c6
      go_wp2_with (go_at_call 65; (with_reducible refine (CR.out A cap _ (dg_up HG.out (below_call HB2.out (by repeat' (first | (with_reducible exact Below.refl _ _) | (with_reducible assumption) | (with_reducible refine below_over ?_ _ _) | (with_reducible refine Lw.below_alloc ?_ _) | (with_reducible refine Below.drew ?_) | (with_reducible refine below_drewN ?_ _) | (with_reducible refine Below.setCell ?_ ?_ _) | go_size)) (Nat.le_refl _))) (RD.out.up (by repeat' (first | (with_reducible exact Below.refl _ _) | (with_reducible assumption) | (with_reducible refine below_over ?_ _ _) | (with_reducible refine Lw.below_alloc ?_ _) | (with_reducible refine Below.drew ?_) | (with_reducible refine below_drewN ?_ _) | (with_reducible refine Below.setCell ?_ ?_ _) | go_size))) (fun a ha hGa => by injection ha with ha; subst ha; have := GL.out _ hGa; have := HA.out; omega)).mono ?_); rintro e w6 ⟨rfl, G6, hp6, hk6, hf6⟩; have HK6 : Hid (Kept G w w6) := Lib.hid ((Kept.of_below (below_call HB2.out (by repeat' (first | (with_reducible exact Below.refl _ _) | (with_reducible assumption) | (with_reducible refine below_over ?_ _ _) | (with_reducible refine Lw.below_alloc ?_ _) | (with_reducible refine Below.drew ?_) | (with_reducible refine below_drewN ?_ _) | (with_reducible refine Below.setCell ?_ ?_ _) | go_size)) (Nat.le_refl _))).trans hk6 (fun q hq h => h)); have HP6 := Lib.hid hp6; have HF6 := Lib.hid hf6; clear hp6 hk6 hf6)
      all_goals go_ret
      all_goals exact ⟨rfl, HT.out _ _ _ HP6.out HK6.out (fun q hq => (HF6.out q hq).elim .inl (fun h => .inr (Nat.le_trans HB2.out.size h)))⟩
    · rw [if_neg hm, if_neg hm]
      have hmb : (c.md == 2) = false := by simpa using hm
      clear hm
      go_enter Tryz.func41, Tryz.ntmps41
      go_upto_region 1 with fail
      go_region_held3 (fun w' => w'.cell? ⟨b, 0, none⟩ = some (.int .i64 c.bt) ∧ w'.cell? ⟨b, 1, none⟩ = some (.int .i64 c.rw) ∧ w'.cell? ⟨b, 2, none⟩ = some (.int .i64 c.wd) ∧ w'.cell? ⟨b, 3, none⟩ = some (.int .i64 c.md) ∧ w'.cell? ⟨b, 4, none⟩ = some (.int .u64 c.sd) ∧ w'.cell? ⟨b, 5, none⟩ = some (.int .i64 l)) (first | (refine ⟨?_, ?_, ?_, ?_, ?_, ?_⟩ <;> (first | (with_reducible assumption) | (with_reducible refine cell_up c0 ?_) | (with_reducible refine cell_up c1 ?_) | (with_reducible refine cell_up c2 ?_) | (with_reducible refine cell_up c3 ?_) | (with_reducible refine cell_up c4 ?_) | (with_reducible refine cell_up c5 ?_)) <;> repeat' (first | (with_reducible exact Below.refl _ _) | (with_reducible assumption) | (with_reducible refine below_over ?_ _ _) | (with_reducible refine Lw.below_alloc ?_ _) | (with_reducible refine Below.drew ?_) | (with_reducible refine below_drewN ?_ _) | (with_reducible refine Below.setCell ?_ ?_ _) | go_size))) (first
        | (go_at_call 34; (with_reducible refine (CK.out _).mono ?_); rintro e w' ⟨rfl, hb⟩; obtain ⟨bs, dd, rfl⟩ := below_grow hb; clear hb))
      obtain ⟨w1, hw1⟩ : ∃ w1, w1 = (grow w.drew bs dd) := ⟨_, rfl⟩
      go_upto_region 3 with fail
      go_region_held3 (fun w' => w'.cell? ⟨b, 0, none⟩ = some (.int .i64 c.bt) ∧ w'.cell? ⟨b, 1, none⟩ = some (.int .i64 c.rw) ∧ w'.cell? ⟨b, 2, none⟩ = some (.int .i64 c.wd) ∧ w'.cell? ⟨b, 3, none⟩ = some (.int .i64 c.md) ∧ w'.cell? ⟨b, 4, none⟩ = some (.int .u64 c.sd) ∧ w'.cell? ⟨b, 5, none⟩ = some (.int .i64 l)) (first | (refine ⟨?_, ?_, ?_, ?_, ?_, ?_⟩ <;> (first | (with_reducible assumption) | (with_reducible refine cell_up c0 ?_) | (with_reducible refine cell_up c1 ?_) | (with_reducible refine cell_up c2 ?_) | (with_reducible refine cell_up c3 ?_) | (with_reducible refine cell_up c4 ?_) | (with_reducible refine cell_up c5 ?_)) <;> repeat' (first | (with_reducible exact Below.refl _ _) | (with_reducible assumption) | (with_reducible refine below_over ?_ _ _) | (with_reducible refine Lw.below_alloc ?_ _) | (with_reducible refine Below.drew ?_) | (with_reducible refine below_drewN ?_ _) | (with_reducible refine Below.setCell ?_ ?_ _) | go_size))) (first
        | (go_at_call 61; (with_reducible refine (CC.out _).mono ?_); rintro e w2 ⟨A, cap, rfl, h1, h2, h3, h4, hb⟩; have RD := Lib.hid h1; have HA : Hid (w.heap.size ≤ A.block) := Lib.hid (Nat.le_trans (Below.size (show Below w.heap.size w _ from (by repeat' (first | (with_reducible exact Below.refl _ _) | (with_reducible assumption) | (with_reducible refine below_over ?_ _ _) | (with_reducible refine Lw.below_alloc ?_ _) | (with_reducible refine Below.drew ?_) | (with_reducible refine below_drewN ?_ _) | (with_reducible refine Below.setCell ?_ ?_ _) | go_size)))) h4); have HB2 : Hid (Below w.heap.size w w2) := Lib.hid (below_call (show Below w.heap.size w _ from (by repeat' (first | (with_reducible exact Below.refl _ _) | (with_reducible assumption) | (with_reducible refine below_over ?_ _ _) | (with_reducible refine Lw.below_alloc ?_ _) | (with_reducible refine Below.drew ?_) | (with_reducible refine below_drewN ?_ _) | (with_reducible refine Below.setCell ?_ ?_ _) | go_size))) hb (Nat.le_refl _)); clear h1 h2 h3 h4 hb; have hbw2 := HB2.out))
      have s3 := cell_up c3 HB2.out
      have s6 := cell_up c6 HB2.out
      clear c0 c1 c2 c3 c4 c5 c6
      go_wp2_with (go_at_call 66; (with_reducible refine (CH.out A cap _ (dg_up HG.out (below_call HB2.out (by repeat' (first | (with_reducible exact Below.refl _ _) | (with_reducible assumption) | (with_reducible refine below_over ?_ _ _) | (with_reducible refine Lw.below_alloc ?_ _) | (with_reducible refine Below.drew ?_) | (with_reducible refine below_drewN ?_ _) | (with_reducible refine Below.setCell ?_ ?_ _) | go_size)) (Nat.le_refl _))) (RD.out.up (by repeat' (first | (with_reducible exact Below.refl _ _) | (with_reducible assumption) | (with_reducible refine below_over ?_ _ _) | (with_reducible refine Lw.below_alloc ?_ _) | (with_reducible refine Below.drew ?_) | (with_reducible refine below_drewN ?_ _) | (with_reducible refine Below.setCell ?_ ?_ _) | go_size))) (fun a ha hGa => by injection ha with ha; subst ha; have := GL.out _ hGa; have := HA.out; omega)).mono ?_); rintro e w6 ⟨rfl, G6, hp6, hk6, hf6⟩; have HK6 : Hid (Kept G w w6) := Lib.hid ((Kept.of_below (below_call HB2.out (by repeat' (first | (with_reducible exact Below.refl _ _) | (with_reducible assumption) | (with_reducible refine below_over ?_ _ _) | (with_reducible refine Lw.below_alloc ?_ _) | (with_reducible refine Below.drew ?_) | (with_reducible refine below_drewN ?_ _) | (with_reducible refine Below.setCell ?_ ?_ _) | go_size)) (Nat.le_refl _))).trans hk6 (fun q hq h => h)); have HP6 := Lib.hid hp6; have HF6 := Lib.hid hf6; clear hp6 hk6 hf6)
      all_goals go_ret
      all_goals exact ⟨rfl, HT.out _ _ _ HP6.out HK6.out (fun q hq => (HF6.out q hq).elim .inl (fun h => .inr (Nat.le_trans HB2.out.size h)))⟩
end Go.Proofs.YtkannodfamnmcaaGreat.Sk
/- The document's sketch: Point, Join. Printed by wip/gen/skdoc.py. -/
namespace Go.Proofs.YtkannodfamnmcaaGreat.Sk
open Go Go.RowKit Lw Grd Lin Con Shp
set_option linter.unusedVariables false
set_option linter.unusedSimpArgs false
set_option maxRecDepth 100000 in
set_option maxHeartbeats 4000000 in
theorem rspoint_any (p : Addr) (F : Nat → Prop) (c : Cfg) (l : Int) (L : List (List Int)) (k : Int) (w : World) (h : DS w p F c l L) (k0 : 0 ≤ k) (k1 : k ≤ 18446744073709551615) :
    Calls Tryz.prog 37 #[.pointer (some p), .int .u64 k] w fun e w' => e = .returned (.tuple #[.int .i64 (ptVal c l L k), .int .i64 (ptCode c l k)]) ∧ Below w.heap.size w w' := by
  have HS := Lib.hid h
  obtain ⟨hr, hok, hl0, hl1, b, gp, G, rfl, hb, hg, hGb, rfl⟩ := h
  have hbl := size_of_heap hb
  have c0 := grd_cell hb 0 (v := .int .i64 c.bt) rfl
  have c1 := grd_cell hb 1 (v := .int .i64 c.rw) rfl
  have c2 := grd_cell hb 2 (v := .int .i64 c.wd) rfl
  have c3 := grd_cell hb 3 (v := .int .i64 c.md) rfl
  have c4 := grd_cell hb 4 (v := .int .u64 c.sd) rfl
  have c5 := grd_cell hb 5 (v := .int .i64 l) rfl
  have c6 := grd_cell hb 6 (v := .pointer (some gp)) rfl
  have hbt := hr.2.1
  have CK := Lib.hid (fun w => rkeys_any c l w hok (by omega) (by omega))
  have CC := Lib.hid (fun w => rcols_own c l k w hok (by omega) (by omega) k0 k1)
  have hrw := rws_bd hr
  by_cases hk : keys c l ≤ k
  · have e1 : ptVal c l L k = 0 := if_pos hk
    have e2 : ptCode c l k = 2 := if_pos hk
    rw [e1, e2]
    obtain ⟨K, hK⟩ : ∃ K, keys c l = K := ⟨_, rfl⟩
    rw [hK] at hk CK
    clear hb hg hrw hK e1 e2
    go_enter Tryz.func37, Tryz.ntmps37
    go_upto_region 1 with fail
    go_region_held3 (fun w' => w'.cell? ⟨b, 0, none⟩ = some (.int .i64 c.bt) ∧ w'.cell? ⟨b, 1, none⟩ = some (.int .i64 c.rw) ∧ w'.cell? ⟨b, 2, none⟩ = some (.int .i64 c.wd) ∧ w'.cell? ⟨b, 3, none⟩ = some (.int .i64 c.md) ∧ w'.cell? ⟨b, 4, none⟩ = some (.int .u64 c.sd) ∧ w'.cell? ⟨b, 5, none⟩ = some (.int .i64 l)) (first | (refine ⟨?_, ?_, ?_, ?_, ?_, ?_⟩ <;> (first | (with_reducible assumption) | (with_reducible refine cell_up c0 ?_) | (with_reducible refine cell_up c1 ?_) | (with_reducible refine cell_up c2 ?_) | (with_reducible refine cell_up c3 ?_) | (with_reducible refine cell_up c4 ?_) | (with_reducible refine cell_up c5 ?_)) <;> repeat' (first | (with_reducible exact Below.refl _ _) | (with_reducible assumption) | (with_reducible refine below_over ?_ _ _) | (with_reducible refine Lw.below_alloc ?_ _) | (with_reducible refine Below.drew ?_) | (with_reducible refine below_drewN ?_ _) | (with_reducible refine Below.setCell ?_ ?_ _) | go_size))) (first
      | (go_at_call 34; (with_reducible refine (CK.out _).mono ?_); rintro e w' ⟨rfl, hb⟩; obtain ⟨bs, dd, rfl⟩ := below_grow hb; clear hb))
    all_goals go_wp2
    all_goals go_ret2
    all_goals exact ⟨rfl, (by repeat' (first | (with_reducible exact Below.refl _ _) | (with_reducible assumption) | (with_reducible refine below_over ?_ _ _) | (with_reducible refine Lw.below_alloc ?_ _) | (with_reducible refine Below.drew ?_) | (with_reducible refine below_drewN ?_ _) | (with_reducible refine Below.setCell ?_ ?_ _) | go_size))⟩
  · have hk2 : k < keys c l := by omega
    rw [pt_ok hk2]
    have hme := cols_meet k0 hk2
    have hlen : (cols c l k).length = rws c := hme.2.1
    have GL := Lib.hid (fun q (hq : G q) => (dgT gp G _ _ L).lt w hg q hq)
    have HG := Lib.hid hg
    have CM := Lib.hid (fun A cap w' hd h1 => rmiddle_any gp G (rws c) (wds c) L (some A) (rws c) cap (cols c l k) w' hd h1 hlen (by omega) (in64_cols c l k))
    have CL := Lib.hid (fun A cap w' hd h1 => rlea_any gp G (rws c) (wds c) L (some A) (rws c) cap (cols c l k) w' hd h1 hlen (by omega) (in64_cols c l k) hme)
    have er : readOf (rws c) (wds c) L (cols c l k) = named L (cols c l k) := if_pos hme
    have ec : rdCode (rws c) (wds c) (cols c l k) = 0 := if_pos hme
    rw [er, ec] at CM
    rw [hlen] at CC
    have HV : Hid (ptVal c l L k = if c.md = 3 then Ord.kv (named L (cols c l k)) ((((named L (cols c l k)).length : Int) - 1) / 2) else lea L (cols c l k)) := Lib.hid (if_neg hk)
    obtain ⟨v1, hv1⟩ : ∃ v, Ord.kv (named L (cols c l k)) ((((named L (cols c l k)).length : Int) - 1) / 2) = v := ⟨_, rfl⟩
    obtain ⟨v2, hv2⟩ : ∃ v, lea L (cols c l k) = v := ⟨_, rfl⟩
    rw [hv1] at CM HV
    rw [hv2] at CL HV
    obtain ⟨K, hK⟩ : ∃ K, keys c l = K := ⟨_, rfl⟩
    rw [hK] at hk2 CK
    obtain ⟨n, hn⟩ : ∃ n, rws c = n := ⟨_, rfl⟩
    rw [hn] at CC CM CL HG
    have hkx : ¬ K ≤ k := by omega
    have hgb : decide (K ≤ k) = false := decide_eq_false hkx
    clear hb hg hrw hK hk hlen hn hme er ec hv1 hv2
    by_cases hm : c.md = 3
    · have hv : ptVal c l L k = v1 := by rw [HV.out, if_pos hm]
      rw [hv]
      have hmb : (c.md == 3) = true := by simp [hm]
      clear hm hv
      go_enter Tryz.func37, Tryz.ntmps37
      go_upto_region 1 with fail
      go_region_held3 (fun w' => w'.cell? ⟨b, 0, none⟩ = some (.int .i64 c.bt) ∧ w'.cell? ⟨b, 1, none⟩ = some (.int .i64 c.rw) ∧ w'.cell? ⟨b, 2, none⟩ = some (.int .i64 c.wd) ∧ w'.cell? ⟨b, 3, none⟩ = some (.int .i64 c.md) ∧ w'.cell? ⟨b, 4, none⟩ = some (.int .u64 c.sd) ∧ w'.cell? ⟨b, 5, none⟩ = some (.int .i64 l)) (first | (refine ⟨?_, ?_, ?_, ?_, ?_, ?_⟩ <;> (first | (with_reducible assumption) | (with_reducible refine cell_up c0 ?_) | (with_reducible refine cell_up c1 ?_) | (with_reducible refine cell_up c2 ?_) | (with_reducible refine cell_up c3 ?_) | (with_reducible refine cell_up c4 ?_) | (with_reducible refine cell_up c5 ?_)) <;> repeat' (first | (with_reducible exact Below.refl _ _) | (with_reducible assumption) | (with_reducible refine below_over ?_ _ _) | (with_reducible refine Lw.below_alloc ?_ _) | (with_reducible refine Below.drew ?_) | (with_reducible refine below_drewN ?_ _) | (with_reducible refine Below.setCell ?_ ?_ _) | go_size))) (first
        | (go_at_call 34; (with_reducible refine (CK.out _).mono ?_); rintro e w' ⟨rfl, hb⟩; obtain ⟨bs, dd, rfl⟩ := below_grow hb; clear hb))
      go_upto_region 3 with fail
      go_region_held3 (fun w' => w'.cell? ⟨b, 0, none⟩ = some (.int .i64 c.bt) ∧ w'.cell? ⟨b, 1, none⟩ = some (.int .i64 c.rw) ∧ w'.cell? ⟨b, 2, none⟩ = some (.int .i64 c.wd) ∧ w'.cell? ⟨b, 3, none⟩ = some (.int .i64 c.md) ∧ w'.cell? ⟨b, 4, none⟩ = some (.int .u64 c.sd) ∧ w'.cell? ⟨b, 5, none⟩ = some (.int .i64 l)) (first | (refine ⟨?_, ?_, ?_, ?_, ?_, ?_⟩ <;> (first | (with_reducible assumption) | (with_reducible refine cell_up c0 ?_) | (with_reducible refine cell_up c1 ?_) | (with_reducible refine cell_up c2 ?_) | (with_reducible refine cell_up c3 ?_) | (with_reducible refine cell_up c4 ?_) | (with_reducible refine cell_up c5 ?_)) <;> repeat' (first | (with_reducible exact Below.refl _ _) | (with_reducible assumption) | (with_reducible refine below_over ?_ _ _) | (with_reducible refine Lw.below_alloc ?_ _) | (with_reducible refine Below.drew ?_) | (with_reducible refine below_drewN ?_ _) | (with_reducible refine Below.setCell ?_ ?_ _) | go_size))) (first
        | (go_at_call 61; (with_reducible refine (CC.out _).mono ?_); rintro e w2 ⟨A, cap, rfl, h1, h2, h3, h4, hb⟩; have RD := Lib.hid h1; have HB2 : Hid (Below w.heap.size w w2) := Lib.hid (below_call (show Below w.heap.size w _ from (by repeat' (first | (with_reducible exact Below.refl _ _) | (with_reducible assumption) | (with_reducible refine below_over ?_ _ _) | (with_reducible refine Lw.below_alloc ?_ _) | (with_reducible refine Below.drew ?_) | (with_reducible refine below_drewN ?_ _) | (with_reducible refine Below.setCell ?_ ?_ _) | go_size))) hb (Nat.le_refl _)); clear h1 h2 h3 h4 hb; have hbw2 := HB2.out))
      have s3 := cell_up c3 HB2.out
      have s6 := cell_up c6 HB2.out
      clear c0 c1 c2 c3 c4 c5 c6
      go_wp2_with (go_at_call 62; (with_reducible refine (CM.out A cap _ (dg_up HG.out (below_call HB2.out (by repeat' (first | (with_reducible exact Below.refl _ _) | (with_reducible assumption) | (with_reducible refine below_over ?_ _ _) | (with_reducible refine Lw.below_alloc ?_ _) | (with_reducible refine Below.drew ?_) | (with_reducible refine below_drewN ?_ _) | (with_reducible refine Below.setCell ?_ ?_ _) | go_size)) (Nat.le_refl _))) (RD.out.up (by repeat' (first | (with_reducible exact Below.refl _ _) | (with_reducible assumption) | (with_reducible refine below_over ?_ _ _) | (with_reducible refine Lw.below_alloc ?_ _) | (with_reducible refine Below.drew ?_) | (with_reducible refine below_drewN ?_ _) | (with_reducible refine Below.setCell ?_ ?_ _) | go_size)))).mono ?_); rintro e w6 ⟨rfl, hb6⟩; have HB6 := Lib.hid (below_call HB2.out (below_call (show Below w2.heap.size w2 _ from (by repeat' (first | (with_reducible exact Below.refl _ _) | (with_reducible assumption) | (with_reducible refine below_over ?_ _ _) | (with_reducible refine Lw.below_alloc ?_ _) | (with_reducible refine Below.drew ?_) | (with_reducible refine below_drewN ?_ _) | (with_reducible refine Below.setCell ?_ ?_ _) | go_size))) hb6 (Nat.le_refl _)) (Nat.le_refl _)); clear hb6)
      all_goals go_ret2
      all_goals exact ⟨rfl, HB6.out⟩
    · have hv : ptVal c l L k = v2 := by rw [HV.out, if_neg hm]
      rw [hv]
      have hmb : (c.md == 3) = false := by simpa using hm
      clear hm hv
      go_enter Tryz.func37, Tryz.ntmps37
      go_upto_region 1 with fail
      go_region_held3 (fun w' => w'.cell? ⟨b, 0, none⟩ = some (.int .i64 c.bt) ∧ w'.cell? ⟨b, 1, none⟩ = some (.int .i64 c.rw) ∧ w'.cell? ⟨b, 2, none⟩ = some (.int .i64 c.wd) ∧ w'.cell? ⟨b, 3, none⟩ = some (.int .i64 c.md) ∧ w'.cell? ⟨b, 4, none⟩ = some (.int .u64 c.sd) ∧ w'.cell? ⟨b, 5, none⟩ = some (.int .i64 l)) (first | (refine ⟨?_, ?_, ?_, ?_, ?_, ?_⟩ <;> (first | (with_reducible assumption) | (with_reducible refine cell_up c0 ?_) | (with_reducible refine cell_up c1 ?_) | (with_reducible refine cell_up c2 ?_) | (with_reducible refine cell_up c3 ?_) | (with_reducible refine cell_up c4 ?_) | (with_reducible refine cell_up c5 ?_)) <;> repeat' (first | (with_reducible exact Below.refl _ _) | (with_reducible assumption) | (with_reducible refine below_over ?_ _ _) | (with_reducible refine Lw.below_alloc ?_ _) | (with_reducible refine Below.drew ?_) | (with_reducible refine below_drewN ?_ _) | (with_reducible refine Below.setCell ?_ ?_ _) | go_size))) (first
        | (go_at_call 34; (with_reducible refine (CK.out _).mono ?_); rintro e w' ⟨rfl, hb⟩; obtain ⟨bs, dd, rfl⟩ := below_grow hb; clear hb))
      go_upto_region 3 with fail
      go_region_held3 (fun w' => w'.cell? ⟨b, 0, none⟩ = some (.int .i64 c.bt) ∧ w'.cell? ⟨b, 1, none⟩ = some (.int .i64 c.rw) ∧ w'.cell? ⟨b, 2, none⟩ = some (.int .i64 c.wd) ∧ w'.cell? ⟨b, 3, none⟩ = some (.int .i64 c.md) ∧ w'.cell? ⟨b, 4, none⟩ = some (.int .u64 c.sd) ∧ w'.cell? ⟨b, 5, none⟩ = some (.int .i64 l)) (first | (refine ⟨?_, ?_, ?_, ?_, ?_, ?_⟩ <;> (first | (with_reducible assumption) | (with_reducible refine cell_up c0 ?_) | (with_reducible refine cell_up c1 ?_) | (with_reducible refine cell_up c2 ?_) | (with_reducible refine cell_up c3 ?_) | (with_reducible refine cell_up c4 ?_) | (with_reducible refine cell_up c5 ?_)) <;> repeat' (first | (with_reducible exact Below.refl _ _) | (with_reducible assumption) | (with_reducible refine below_over ?_ _ _) | (with_reducible refine Lw.below_alloc ?_ _) | (with_reducible refine Below.drew ?_) | (with_reducible refine below_drewN ?_ _) | (with_reducible refine Below.setCell ?_ ?_ _) | go_size))) (first
        | (go_at_call 61; (with_reducible refine (CC.out _).mono ?_); rintro e w2 ⟨A, cap, rfl, h1, h2, h3, h4, hb⟩; have RD := Lib.hid h1; have HB2 : Hid (Below w.heap.size w w2) := Lib.hid (below_call (show Below w.heap.size w _ from (by repeat' (first | (with_reducible exact Below.refl _ _) | (with_reducible assumption) | (with_reducible refine below_over ?_ _ _) | (with_reducible refine Lw.below_alloc ?_ _) | (with_reducible refine Below.drew ?_) | (with_reducible refine below_drewN ?_ _) | (with_reducible refine Below.setCell ?_ ?_ _) | go_size))) hb (Nat.le_refl _)); clear h1 h2 h3 h4 hb; have hbw2 := HB2.out))
      have s3 := cell_up c3 HB2.out
      have s6 := cell_up c6 HB2.out
      clear c0 c1 c2 c3 c4 c5 c6
      go_wp2_with (go_at_call 63; (with_reducible refine (CL.out A cap _ (dg_up HG.out (below_call HB2.out (by repeat' (first | (with_reducible exact Below.refl _ _) | (with_reducible assumption) | (with_reducible refine below_over ?_ _ _) | (with_reducible refine Lw.below_alloc ?_ _) | (with_reducible refine Below.drew ?_) | (with_reducible refine below_drewN ?_ _) | (with_reducible refine Below.setCell ?_ ?_ _) | go_size)) (Nat.le_refl _))) (RD.out.up (by repeat' (first | (with_reducible exact Below.refl _ _) | (with_reducible assumption) | (with_reducible refine below_over ?_ _ _) | (with_reducible refine Lw.below_alloc ?_ _) | (with_reducible refine Below.drew ?_) | (with_reducible refine below_drewN ?_ _) | (with_reducible refine Below.setCell ?_ ?_ _) | go_size)))).mono ?_); rintro e w6 ⟨rfl, hb6⟩; have HB6 := Lib.hid (below_call HB2.out (below_call (show Below w2.heap.size w2 _ from (by repeat' (first | (with_reducible exact Below.refl _ _) | (with_reducible assumption) | (with_reducible refine below_over ?_ _ _) | (with_reducible refine Lw.below_alloc ?_ _) | (with_reducible refine Below.drew ?_) | (with_reducible refine below_drewN ?_ _) | (with_reducible refine Below.setCell ?_ ?_ _) | go_size))) hb6 (Nat.le_refl _)) (Nat.le_refl _)); clear hb6)
      all_goals go_ret2
      all_goals exact ⟨rfl, HB6.out⟩
set_option maxRecDepth 100000 in
set_option maxHeartbeats 4000000 in
theorem rsjoin_p (p : Addr) (F : Nat → Prop) (c : Cfg) (l : Int) (L : List (List Int)) (q : Addr) (G' : Nat → Prop) (M : List (List Int)) (w : World) (h : DS w p F c l L) (g : DS w q G' c l M) (hsep : ∀ k, F k → ¬ G' k) :
    Calls Tryz.prog 46 #[.pointer (some p), .pointer (some q), .int .i64 (1)] w fun e w' => e = .returned (.int .i64 (jcode (1) (rws c) (wds c) (rws c) (wds c) L M)) ∧ ∃ F', DS w' p F' c l (jres (1) (rws c) (wds c) (rws c) (wds c) L M) ∧ Kept F w w' ∧ (∀ q, F' q → F q ∨ w.heap.size ≤ q) := by
  have HS := Lib.hid h
  obtain ⟨hr, hok, hl0, hl1, b, gp, G, rfl, hb, hg, hGb, rfl⟩ := h
  obtain ⟨hr2, hok2, gl0, gl1, b2, gp2, G2, rfl, hb2, hg2, hGb2, rfl⟩ := g
  have hbl := size_of_heap hb
  have hbl2 := size_of_heap hb2
  have c0 := grd_cell hb 0 (v := .int .i64 c.bt) rfl
  have c1 := grd_cell hb 1 (v := .int .i64 c.rw) rfl
  have c2 := grd_cell hb 2 (v := .int .i64 c.wd) rfl
  have c3 := grd_cell hb 3 (v := .int .i64 c.md) rfl
  have c4 := grd_cell hb 4 (v := .int .u64 c.sd) rfl
  have c5 := grd_cell hb 5 (v := .int .i64 l) rfl
  have c6 := grd_cell hb 6 (v := .pointer (some gp)) rfl
  have e0 := grd_cell hb2 0 (v := .int .i64 c.bt) rfl
  have e1 := grd_cell hb2 1 (v := .int .i64 c.rw) rfl
  have e2 := grd_cell hb2 2 (v := .int .i64 c.wd) rfl
  have e3 := grd_cell hb2 3 (v := .int .i64 c.md) rfl
  have e4 := grd_cell hb2 4 (v := .int .u64 c.sd) rfl
  have e5 := grd_cell hb2 5 (v := .int .i64 l) rfl
  have e6 := grd_cell hb2 6 (v := .pointer (some gp2)) rfl
  have HT : Hid (∀ w' G' L', DG w' gp G' (rws c) (wds c) L' → Kept G w w' → (∀ k, G' k → G k ∨ w.heap.size ≤ k) → ∃ F', DS w' ⟨b, 0, none⟩ F' c l L' ∧ Kept (fun k => k = b ∨ G k) w w' ∧ (∀ q, F' q → (q = b ∨ G q) ∨ w.heap.size ≤ q)) := Lib.hid (fun w' G' L' h1 h2 h3 => ds_turn hr hok hl0 hl1 hb hGb h1 h2 h3)
  have CJ := Lib.hid (fun w' hd h1 => djoin_any gp G (rws c) (wds c) L gp2 G2 M (1) w' hd h1 (by omega))
  have HG := Lib.hid hg
  have HG2 := Lib.hid hg2
  have HY6 : Hid (∀ w', Kept G w w' → w'.cell? ⟨b2, 6, none⟩ = some (.pointer (some gp2))) := Lib.hid (fun w' hk => hk.cell e6 (fun h => hsep b2 (.inr h) (.inl rfl)))
  obtain ⟨V, hV⟩ : ∃ V, jcode (1) (rws c) (wds c) (rws c) (wds c) L M = V := ⟨_, rfl⟩
  obtain ⟨R, hR⟩ : ∃ R, jres (1) (rws c) (wds c) (rws c) (wds c) L M = R := ⟨_, rfl⟩
  rw [hV, hR] at CJ
  rw [hV, hR]
  clear hb hb2 hg hg2 hV hR hsep
  go_enter Tryz.func46, Tryz.ntmps46
  go_upto_region 1 with fail
  go_quiet (fail)
  all_goals go_upto_region 5 with fail
  all_goals go_region_held3 (fun w' => w'.cell? ⟨b, 6, none⟩ = some (.pointer (some gp)) ∧ w'.cell? ⟨b2, 6, none⟩ = some (.pointer (some gp2))) (first | (refine ⟨?_, ?_⟩ <;> (first | (with_reducible assumption) | (with_reducible refine cell_up c6 ?_) | (with_reducible refine cell_up e6 ?_)) <;> repeat' (first | (with_reducible exact Below.refl _ _) | (with_reducible assumption) | (with_reducible refine below_over ?_ _ _) | (with_reducible refine Lw.below_alloc ?_ _) | (with_reducible refine Below.drew ?_) | (with_reducible refine below_drewN ?_ _) | (with_reducible refine Below.setCell ?_ ?_ _) | go_size))) (first
    | (go_at_call 74; (with_reducible refine (CJ.out _ (dg_up HG.out (by repeat' (first | (with_reducible exact Below.refl _ _) | (with_reducible assumption) | (with_reducible refine below_over ?_ _ _) | (with_reducible refine Lw.below_alloc ?_ _) | (with_reducible refine Below.drew ?_) | (with_reducible refine below_drewN ?_ _) | (with_reducible refine Below.setCell ?_ ?_ _) | go_size))) (dg_up HG2.out (by repeat' (first | (with_reducible exact Below.refl _ _) | (with_reducible assumption) | (with_reducible refine below_over ?_ _ _) | (with_reducible refine Lw.below_alloc ?_ _) | (with_reducible refine Below.drew ?_) | (with_reducible refine below_drewN ?_ _) | (with_reducible refine Below.setCell ?_ ?_ _) | go_size)))).mono ?_); rintro e w6 ⟨rfl, G6, hp6, hk6, hf6⟩; have HK6 : Hid (Kept G w w6) := Lib.hid ((Kept.of_below (show Below w.heap.size w _ from (by repeat' (first | (with_reducible exact Below.refl _ _) | (with_reducible assumption) | (with_reducible refine below_over ?_ _ _) | (with_reducible refine Lw.below_alloc ?_ _) | (with_reducible refine Below.drew ?_) | (with_reducible refine below_drewN ?_ _) | (with_reducible refine Below.setCell ?_ ?_ _) | go_size)))).trans hk6 (fun q hq h => h)); have HP6 := Lib.hid hp6; have HF6 : Hid (∀ k, G6 k → G k ∨ w.heap.size ≤ k) := Lib.hid (fun k hk => (hf6 k hk).elim .inl (fun h => .inr (Nat.le_trans (Below.size (show Below w.heap.size w _ from (by repeat' (first | (with_reducible exact Below.refl _ _) | (with_reducible assumption) | (with_reducible refine below_over ?_ _ _) | (with_reducible refine Lw.below_alloc ?_ _) | (with_reducible refine Below.drew ?_) | (with_reducible refine below_drewN ?_ _) | (with_reducible refine Below.setCell ?_ ?_ _) | go_size)))) h))); have x6 : w6.cell? ⟨b, 6, none⟩ = some (.pointer (some gp)) := HK6.out.cell c6 hGb; have y6 := HY6.out w6 HK6.out; clear c6 e6; have c6 := x6; have e6 := y6; clear x6 y6 hp6 hk6 hf6))
  all_goals go_wp2
  all_goals go_ret
  all_goals exact ⟨rfl, HT.out _ _ _ HP6.out HK6.out HF6.out⟩
set_option maxRecDepth 100000 in
set_option maxHeartbeats 4000000 in
theorem rsjoin_m (p : Addr) (F : Nat → Prop) (c : Cfg) (l : Int) (L : List (List Int)) (q : Addr) (G' : Nat → Prop) (M : List (List Int)) (w : World) (h : DS w p F c l L) (g : DS w q G' c l M) (hsep : ∀ k, F k → ¬ G' k) (hm : c.md ≠ 2) :
    Calls Tryz.prog 46 #[.pointer (some p), .pointer (some q), .int .i64 (-1)] w fun e w' => e = .returned (.int .i64 (jcode (-1) (rws c) (wds c) (rws c) (wds c) L M)) ∧ ∃ F', DS w' p F' c l (jres (-1) (rws c) (wds c) (rws c) (wds c) L M) ∧ Kept F w w' ∧ (∀ q, F' q → F q ∨ w.heap.size ≤ q) := by
  have HS := Lib.hid h
  obtain ⟨hr, hok, hl0, hl1, b, gp, G, rfl, hb, hg, hGb, rfl⟩ := h
  obtain ⟨hr2, hok2, gl0, gl1, b2, gp2, G2, rfl, hb2, hg2, hGb2, rfl⟩ := g
  have hbl := size_of_heap hb
  have hbl2 := size_of_heap hb2
  have c0 := grd_cell hb 0 (v := .int .i64 c.bt) rfl
  have c1 := grd_cell hb 1 (v := .int .i64 c.rw) rfl
  have c2 := grd_cell hb 2 (v := .int .i64 c.wd) rfl
  have c3 := grd_cell hb 3 (v := .int .i64 c.md) rfl
  have c4 := grd_cell hb 4 (v := .int .u64 c.sd) rfl
  have c5 := grd_cell hb 5 (v := .int .i64 l) rfl
  have c6 := grd_cell hb 6 (v := .pointer (some gp)) rfl
  have e0 := grd_cell hb2 0 (v := .int .i64 c.bt) rfl
  have e1 := grd_cell hb2 1 (v := .int .i64 c.rw) rfl
  have e2 := grd_cell hb2 2 (v := .int .i64 c.wd) rfl
  have e3 := grd_cell hb2 3 (v := .int .i64 c.md) rfl
  have e4 := grd_cell hb2 4 (v := .int .u64 c.sd) rfl
  have e5 := grd_cell hb2 5 (v := .int .i64 l) rfl
  have e6 := grd_cell hb2 6 (v := .pointer (some gp2)) rfl
  have HT : Hid (∀ w' G' L', DG w' gp G' (rws c) (wds c) L' → Kept G w w' → (∀ k, G' k → G k ∨ w.heap.size ≤ k) → ∃ F', DS w' ⟨b, 0, none⟩ F' c l L' ∧ Kept (fun k => k = b ∨ G k) w w' ∧ (∀ q, F' q → (q = b ∨ G q) ∨ w.heap.size ≤ q)) := Lib.hid (fun w' G' L' h1 h2 h3 => ds_turn hr hok hl0 hl1 hb hGb h1 h2 h3)
  have CJ := Lib.hid (fun w' hd h1 => djoin_any gp G (rws c) (wds c) L gp2 G2 M (-1) w' hd h1 (by omega))
  have HG := Lib.hid hg
  have HG2 := Lib.hid hg2
  have HY6 : Hid (∀ w', Kept G w w' → w'.cell? ⟨b2, 6, none⟩ = some (.pointer (some gp2))) := Lib.hid (fun w' hk => hk.cell e6 (fun h => hsep b2 (.inr h) (.inl rfl)))
  have hmb : (c.md == 2) = false := by simpa using hm
  obtain ⟨V, hV⟩ : ∃ V, jcode (-1) (rws c) (wds c) (rws c) (wds c) L M = V := ⟨_, rfl⟩
  obtain ⟨R, hR⟩ : ∃ R, jres (-1) (rws c) (wds c) (rws c) (wds c) L M = R := ⟨_, rfl⟩
  rw [hV, hR] at CJ
  rw [hV, hR]
  clear hb hb2 hg hg2 hV hR hsep hm
  go_enter Tryz.func46, Tryz.ntmps46
  go_upto_region 1 with fail
  go_quiet (fail)
  all_goals go_upto_region 5 with fail
  all_goals go_region_held3 (fun w' => w'.cell? ⟨b, 6, none⟩ = some (.pointer (some gp)) ∧ w'.cell? ⟨b2, 6, none⟩ = some (.pointer (some gp2))) (first | (refine ⟨?_, ?_⟩ <;> (first | (with_reducible assumption) | (with_reducible refine cell_up c6 ?_) | (with_reducible refine cell_up e6 ?_)) <;> repeat' (first | (with_reducible exact Below.refl _ _) | (with_reducible assumption) | (with_reducible refine below_over ?_ _ _) | (with_reducible refine Lw.below_alloc ?_ _) | (with_reducible refine Below.drew ?_) | (with_reducible refine below_drewN ?_ _) | (with_reducible refine Below.setCell ?_ ?_ _) | go_size))) (first
    | (go_at_call 74; (with_reducible refine (CJ.out _ (dg_up HG.out (by repeat' (first | (with_reducible exact Below.refl _ _) | (with_reducible assumption) | (with_reducible refine below_over ?_ _ _) | (with_reducible refine Lw.below_alloc ?_ _) | (with_reducible refine Below.drew ?_) | (with_reducible refine below_drewN ?_ _) | (with_reducible refine Below.setCell ?_ ?_ _) | go_size))) (dg_up HG2.out (by repeat' (first | (with_reducible exact Below.refl _ _) | (with_reducible assumption) | (with_reducible refine below_over ?_ _ _) | (with_reducible refine Lw.below_alloc ?_ _) | (with_reducible refine Below.drew ?_) | (with_reducible refine below_drewN ?_ _) | (with_reducible refine Below.setCell ?_ ?_ _) | go_size)))).mono ?_); rintro e w6 ⟨rfl, G6, hp6, hk6, hf6⟩; have HK6 : Hid (Kept G w w6) := Lib.hid ((Kept.of_below (show Below w.heap.size w _ from (by repeat' (first | (with_reducible exact Below.refl _ _) | (with_reducible assumption) | (with_reducible refine below_over ?_ _ _) | (with_reducible refine Lw.below_alloc ?_ _) | (with_reducible refine Below.drew ?_) | (with_reducible refine below_drewN ?_ _) | (with_reducible refine Below.setCell ?_ ?_ _) | go_size)))).trans hk6 (fun q hq h => h)); have HP6 := Lib.hid hp6; have HF6 : Hid (∀ k, G6 k → G k ∨ w.heap.size ≤ k) := Lib.hid (fun k hk => (hf6 k hk).elim .inl (fun h => .inr (Nat.le_trans (Below.size (show Below w.heap.size w _ from (by repeat' (first | (with_reducible exact Below.refl _ _) | (with_reducible assumption) | (with_reducible refine below_over ?_ _ _) | (with_reducible refine Lw.below_alloc ?_ _) | (with_reducible refine Below.drew ?_) | (with_reducible refine below_drewN ?_ _) | (with_reducible refine Below.setCell ?_ ?_ _) | go_size)))) h))); have x6 : w6.cell? ⟨b, 6, none⟩ = some (.pointer (some gp)) := HK6.out.cell c6 hGb; have y6 := HY6.out w6 HK6.out; clear c6 e6; have c6 := x6; have e6 := y6; clear x6 y6 hp6 hk6 hf6))
  all_goals go_wp2
  all_goals go_ret
  all_goals exact ⟨rfl, HT.out _ _ _ HP6.out HK6.out HF6.out⟩
set_option maxRecDepth 100000 in
set_option maxHeartbeats 4000000 in
theorem rsjoin_con (p : Addr) (F : Nat → Prop) (c : Cfg) (l : Int) (L : List (List Int)) (q : Addr) (G' : Nat → Prop) (M : List (List Int)) (w : World) (h : DS w p F c l L) (g : DS w q G' c l M) (hm : c.md = 2) :
    Calls Tryz.prog 46 #[.pointer (some p), .pointer (some q), .int .i64 (-1)] w fun e w' => e = .returned (.int .i64 3) ∧ Below w.heap.size w w' := by
  have HS := Lib.hid h
  obtain ⟨hr, hok, hl0, hl1, b, gp, G, rfl, hb, hg, hGb, rfl⟩ := h
  obtain ⟨hr2, hok2, gl0, gl1, b2, gp2, G2, rfl, hb2, hg2, hGb2, rfl⟩ := g
  have hbl := size_of_heap hb
  have hbl2 := size_of_heap hb2
  have c0 := grd_cell hb 0 (v := .int .i64 c.bt) rfl
  have c1 := grd_cell hb 1 (v := .int .i64 c.rw) rfl
  have c2 := grd_cell hb 2 (v := .int .i64 c.wd) rfl
  have c3 := grd_cell hb 3 (v := .int .i64 c.md) rfl
  have c4 := grd_cell hb 4 (v := .int .u64 c.sd) rfl
  have c5 := grd_cell hb 5 (v := .int .i64 l) rfl
  have c6 := grd_cell hb 6 (v := .pointer (some gp)) rfl
  have e0 := grd_cell hb2 0 (v := .int .i64 c.bt) rfl
  have e1 := grd_cell hb2 1 (v := .int .i64 c.rw) rfl
  have e2 := grd_cell hb2 2 (v := .int .i64 c.wd) rfl
  have e3 := grd_cell hb2 3 (v := .int .i64 c.md) rfl
  have e4 := grd_cell hb2 4 (v := .int .u64 c.sd) rfl
  have e5 := grd_cell hb2 5 (v := .int .i64 l) rfl
  have e6 := grd_cell hb2 6 (v := .pointer (some gp2)) rfl
  have hmb : (c.md == 2) = true := by simp [hm]
  clear hb hb2 hg hg2 hm
  go_enter Tryz.func46, Tryz.ntmps46
  go_upto_region 1 with fail
  go_quiet (fail)
  all_goals go_wp2
  all_goals go_ret
  all_goals exact ⟨rfl, (by repeat' (first | (with_reducible exact Below.refl _ _) | (with_reducible assumption) | (with_reducible refine below_over ?_ _ _) | (with_reducible refine Lw.below_alloc ?_ _) | (with_reducible refine Below.drew ?_) | (with_reducible refine below_drewN ?_ _) | (with_reducible refine Below.setCell ?_ ?_ _) | go_size))⟩
end Go.Proofs.YtkannodfamnmcaaGreat.Sk
