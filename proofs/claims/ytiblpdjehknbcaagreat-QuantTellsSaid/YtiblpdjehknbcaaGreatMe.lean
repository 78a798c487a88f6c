/- Texts that the statements of this seat lean on, put together: ShpRef, LinDef, LinCodM, LinCode, LinRef, LinChg, LinLawA. -/
import Derived.Test.YtiblpdjehknbcaaGreatMa
import Derived.Test.YtiblpdjehknbcaaGreatMb
import Derived.Test.YtiblpdjehknbcaaGreatMc
import Derived.Test.YtiblpdjehknbcaaGreatMd
import Derived.Deep.LoopGhost
import Derived.Deep.RegionHeld3
import Derived.Deep.QuietTactic
import Derived.BigQuiet
import Derived.WalkSpells
import Derived.Laws.Cover3
import Derived.WalkMore
import Derived.Laws.OwnMore
import Derived.Deep.DeepCutAuto
/- The walks of the document's own answers for layer 7. Printed by wip/gen/shp.py. -/
namespace Go.Proofs.YtiblpdjehknbcaaGreat.Shp
open Go Go.RowKit Lw
set_option linter.unusedVariables false
set_option linter.unusedSimpArgs false
theorem ret_b {a b : Bool} (h : a = b) : Ending.returned (.bool a) = .returned (.bool b) := by rw [h]
theorem ret_i {k : IntKind} {a b : Int} (h : a = b) : Ending.returned (.int k a) = .returned (.int k b) := by rw [h]
theorem ret_ib {k : IntKind} {a b : Int} {p q : Bool} (h : a = b) (g : p = q) : Ending.returned (.tuple #[.int k a, .bool p]) = .returned (.tuple #[.int k b, .bool q]) := by rw [h, g]
theorem right_mode (c : Cfg) (h1 : 1 ≤ c.bt) (h2 : c.bt ≤ 59) (h3 : 1 ≤ c.rw) (h4 : c.rw ≤ 8) (h5 : 1 ≤ c.wd) (h6 : c.wd ≤ 128) : right c = (c.md == 1 || c.md == 2 || c.md == 3) := by
  by_cases h : 1 ≤ c.md ∧ c.md ≤ 3
  · have e : right c = true := decide_eq_true ⟨h1, h2, h3, h4, h5, h6, h.1, h.2⟩
    have : c.md = 1 ∨ c.md = 2 ∨ c.md = 3 := by omega
    rw [e]
    rcases this with h | h | h <;> simp [h]
  · have e : right c = false := decide_eq_false (fun hr => h ⟨hr.2.2.2.2.2.2.1, hr.2.2.2.2.2.2.2⟩)
    have n1 : ¬ c.md = 1 := by omega
    have n2 : ¬ c.md = 2 := by omega
    have n3 : ¬ c.md = 3 := by omega
    rw [e]
    simp [n1, n2, n3]
set_option maxRecDepth 100000 in
theorem rright_any (c : Cfg) (w : World) (h : c.Ok) :
    Calls Tryz.prog 50 #[.agg #[.int .i64 c.bt, .int .i64 c.rw, .int .i64 c.wd, .int .i64 c.md, .int .u64 c.sd]] w fun e w' => e = .returned (.bool (right c)) ∧ Below w.heap.size w w' := by
  obtain ⟨b0, b1, r0, r1, w0, w1, m0, m1, s0, s1⟩ := h
  go_enter Tryz.func50, Tryz.ntmps50
  go_wp2
  all_goals go_ret
  all_goals refine ⟨ret_b (by first | exact (decide_eq_false (fun h => by unfold IsRight at h; omega)).symm | exact (decide_eq_true (by unfold IsRight; omega)).symm | exact (right_mode c (by omega) (by omega) (by omega) (by omega) (by omega) (by omega)).symm), ?_⟩
  all_goals (repeat' (first | (with_reducible exact Below.refl _ _) | (with_reducible assumption) | (with_reducible refine below_over ?_ _ _) | (with_reducible refine Lw.below_alloc ?_ _) | (with_reducible refine Below.drew ?_) | (with_reducible refine below_drewN ?_ _) | (with_reducible refine Below.setCell ?_ ?_ _) | go_size))
theorem pow_next (a : Nat) : (2 : Int) ^ (a + 1) = 2 ^ a * 2 := by rw [Int.pow_succ]
set_option maxRecDepth 100000 in
theorem rkeys_any (c : Cfg) (l : Int) (w : World) (h : c.Ok) (l0 : -9223372036854775808 ≤ l) (l1 : l ≤ 9223372036854775807) :
    Calls Tryz.prog 24 #[.agg #[.int .i64 c.bt, .int .i64 c.rw, .int .i64 c.wd, .int .i64 c.md, .int .u64 c.sd], .int .i64 l] w fun e w' => e = .returned (.int .u64 (keys c l)) ∧ Below w.heap.size w w' := by
  have HO := Lib.hid h
  obtain ⟨b0, b1, r0, r1, w0, w1, m0, m1, s0, s1⟩ := h
  by_cases hr : IsRight c
  · have hr2 : right c = true := decide_eq_true hr
    have HR := Lib.hid hr
    have hb1 := hr.1
    have hb2 := hr.2.1
    clear hr
    by_cases h0 : l < 0
    · have hk : keys c l = 0 := keys_no (by omega)
      go_enter Tryz.func24, Tryz.ntmps24
      go_wp2_with (go_at_call 50; (with_reducible refine (rright_any c _ HO.out).mono ?_); rintro e w' ⟨rfl, hb⟩; obtain ⟨bs, d, rfl⟩ := below_grow hb; clear hb)
      all_goals go_ret
      all_goals refine ⟨ret_i hk.symm, ?_⟩
      all_goals (repeat' (first | (with_reducible exact Below.refl _ _) | (with_reducible assumption) | (with_reducible refine below_over ?_ _ _) | (with_reducible refine Lw.below_alloc ?_ _) | (with_reducible refine Below.drew ?_) | (with_reducible refine below_drewN ?_ _) | (with_reducible refine Below.setCell ?_ ?_ _) | go_size))
    · by_cases h2 : c.bt < l
      · have hk : keys c l = 0 := keys_no (by omega)
        go_enter Tryz.func24, Tryz.ntmps24
        go_wp2_with (go_at_call 50; (with_reducible refine (rright_any c _ HO.out).mono ?_); rintro e w' ⟨rfl, hb⟩; obtain ⟨bs, d, rfl⟩ := below_grow hb; clear hb)
        all_goals go_ret
        all_goals refine ⟨ret_i hk.symm, ?_⟩
        all_goals (repeat' (first | (with_reducible exact Below.refl _ _) | (with_reducible assumption) | (with_reducible refine below_over ?_ _ _) | (with_reducible refine Lw.below_alloc ?_ _) | (with_reducible refine Below.drew ?_) | (with_reducible refine below_drewN ?_ _) | (with_reducible refine Below.setCell ?_ ?_ _) | go_size))
      · have hk : keys c l = 2 ^ (c.bt - l).toNat := keys_yes HR.out (by omega) (by omega)
        have HK := Lib.hid hk
        clear hk
        go_enter Tryz.func24, Tryz.ntmps24
        go_wp2_with (go_at_call 50; (with_reducible refine (rright_any c _ HO.out).mono ?_); rintro e w' ⟨rfl, hb⟩; obtain ⟨bs, d, rfl⟩ := below_grow hb; clear hb)
        go_loop [5, 6] (fun n i => ∃ k : Nat, i = .int .i64 (l + k) ∧ l + k ≤ c.bt ∧ n = .int .u64 (2 ^ k)) (fun _ i => (c.bt - intOf i).toNat)
        case atStart => exact ⟨0, by simp, by omega, rfl⟩
        case round =>
          obtain ⟨k, rfl, hkb, rfl⟩ := hrel
          have hp0 := pow_pos2 k
          by_cases hlt : l + k < c.bt
          · have hp1 := pow_le2 (a := k) (b := 58) (by omega)
            have e58 : (2 : Int) ^ 58 = 288230376151711744 := by decide
            rw [e58] at hp1
            have HN := Lib.hid (pow_next k)
            clear e58
            obtain ⟨P, hP⟩ : ∃ P, (2 : Int) ^ k = P := ⟨_, rfl⟩
            rw [hP] at hp0 hp1 HN
            rw [hP]
            clear hP
            go_wp2
            go_round
            case rel => exact ⟨k + 1, by go_num, by omega, by rw [HN.out]⟩
            case measure => simp [intOf]; omega
          · have e : (c.bt - l).toNat = k := by omega
            rw [e] at HK
            go_wp2
            go_ret
            refine ⟨ret_i HK.out.symm, ?_⟩
            repeat' (first | (with_reducible exact Below.refl _ _) | (with_reducible assumption) | (with_reducible refine below_over ?_ _ _) | (with_reducible refine Lw.below_alloc ?_ _) | (with_reducible refine Below.drew ?_) | (with_reducible refine below_drewN ?_ _) | (with_reducible refine Below.setCell ?_ ?_ _) | go_size)
  · have hr2 : right c = false := decide_eq_false hr
    have hk : keys c l = 0 := keys_no (fun h => hr h.1)
    clear hr
    go_enter Tryz.func24, Tryz.ntmps24
    go_wp2_with (go_at_call 50; (with_reducible refine (rright_any c _ HO.out).mono ?_); rintro e w' ⟨rfl, hb⟩; obtain ⟨bs, d, rfl⟩ := below_grow hb; clear hb)
    all_goals go_ret
    all_goals refine ⟨ret_i hk.symm, ?_⟩
    all_goals (repeat' (first | (with_reducible exact Below.refl _ _) | (with_reducible assumption) | (with_reducible refine below_over ?_ _ _) | (with_reducible refine Lw.below_alloc ?_ _) | (with_reducible refine Below.drew ?_) | (with_reducible refine below_drewN ?_ _) | (with_reducible refine Below.setCell ?_ ?_ _) | go_size))
set_option maxRecDepth 100000 in
theorem rexact_any (c : Cfg) (l : Int) (w : World) (h : c.Ok) (l0 : -9223372036854775808 ≤ l) (l1 : l ≤ 9223372036854775807) :
    Calls Tryz.prog 56 #[.agg #[.int .i64 c.bt, .int .i64 c.rw, .int .i64 c.wd, .int .i64 c.md, .int .u64 c.sd], .int .i64 l] w fun e w' => e = .returned (.bool (exactB c l)) ∧ Below w.heap.size w w' := by
  have HO := Lib.hid h
  obtain ⟨b0, b1, r0, r1, w0, w1, m0, m1, s0, s1⟩ := h
  have hk := keys_bd c l
  have he : exactB c l = decide (1 ≤ keys c l ∧ keys c l ≤ c.wd) := rfl
  have HE := Lib.hid he
  clear he
  obtain ⟨K, hK⟩ : ∃ K, keys c l = K := ⟨_, rfl⟩
  rw [hK] at hk HE
  have hu : ∀ m : Int, 0 ≤ m → m ≤ 9223372036854775807 → IntKind.u64.wrap m = m := fun m h0 h1 => IntWalk.u64_in m ⟨by omega, by omega⟩
  by_cases h0 : c.wd < 0
  · have hu2 := hu 0 (by omega) (by omega)
    go_enter Tryz.func56, Tryz.ntmps56
    go_wp2_with (go_at_call 24; (with_reducible refine (rkeys_any c l _ HO.out l0 l1).mono ?_); rintro e w' ⟨he, hb⟩; rw [hK] at he; subst he; obtain ⟨bs, d, rfl⟩ := below_grow hb; clear hb)
    all_goals go_ret
    all_goals refine ⟨ret_b (by rw [HE.out]; first | exact (decide_eq_false (fun h => by omega)).symm | exact (decide_eq_true (by omega)).symm | (rw [Bool.eq_iff_iff]; simp; omega)), ?_⟩
    all_goals (repeat' (first | (with_reducible exact Below.refl _ _) | (with_reducible assumption) | (with_reducible refine below_over ?_ _ _) | (with_reducible refine Lw.below_alloc ?_ _) | (with_reducible refine Below.drew ?_) | (with_reducible refine below_drewN ?_ _) | (with_reducible refine Below.setCell ?_ ?_ _) | go_size))
  · have hu2 := hu c.wd (by omega) w1
    go_enter Tryz.func56, Tryz.ntmps56
    go_wp2_with (go_at_call 24; (with_reducible refine (rkeys_any c l _ HO.out l0 l1).mono ?_); rintro e w' ⟨he, hb⟩; rw [hK] at he; subst he; obtain ⟨bs, d, rfl⟩ := below_grow hb; clear hb)
    all_goals go_ret
    all_goals refine ⟨ret_b (by rw [HE.out]; first | exact (decide_eq_false (fun h => by omega)).symm | exact (decide_eq_true (by omega)).symm | (rw [Bool.eq_iff_iff]; simp; omega)), ?_⟩
    all_goals (repeat' (first | (with_reducible exact Below.refl _ _) | (with_reducible assumption) | (with_reducible refine below_over ?_ _ _) | (with_reducible refine Lw.below_alloc ?_ _) | (with_reducible refine Below.drew ?_) | (with_reducible refine below_drewN ?_ _) | (with_reducible refine Below.setCell ?_ ?_ _) | go_size))
theorem pow_div (k l : Int) (n : Nat) : k / 2 ^ n / 2 = k / 2 ^ (n + 1) := by
  rw [Int.pow_succ, Int.ediv_ediv_of_nonneg (by have := pow_pos2 n; omega)]
theorem div_bd (k : Int) (n : Nat) (h : 0 ≤ k) : 0 ≤ k / 2 ^ n ∧ k / 2 ^ n ≤ k := by
  have hp := pow_pos2 n
  refine ⟨Int.ediv_nonneg h (by omega), ?_⟩
  exact Int.ediv_le_self _ h
theorem cols_yes {c : Cfg} {l k : Int} (h : k < keys c l) : cols c l k = (List.range c.rw.toNat).map (col c l k) := if_pos h
theorem cols_no {c : Cfg} {l k : Int} (h : ¬ k < keys c l) : cols c l k = [] := if_neg h
theorem range_next (f : Nat → Int) (r : Nat) : (List.range (r + 1)).map f = (List.range r).map f ++ [f r] := by rw [List.range_succ, List.map_append]; rfl
set_option maxRecDepth 100000 in
set_option maxHeartbeats 2000000 in
theorem rcols_any (c : Cfg) (l k : Int) (w : World) (h : c.Ok) (l0 : -9223372036854775808 ≤ l) (l1 : l ≤ 9223372036854775807) (k0 : 0 ≤ k) (k1 : k ≤ 18446744073709551615) :
    Calls Tryz.prog 72 #[.agg #[.int .i64 c.bt, .int .i64 c.rw, .int .i64 c.wd, .int .i64 c.md, .int .u64 c.sd], .int .i64 l, .int .u64 k] w fun e w' => ∃ (A : Addr) (cap : Nat), e = .returned (.slice (some A) (cols c l k).length cap) ∧ Rd .i64 w' (some A) (cols c l k) ∧ (cols c l k).length ≤ cap ∧ cap ≤ maxLen ∧ Below w.heap.size w w' := by
  obtain ⟨i0, hi, hi0, hi1, hi2⟩ := info_parts int_info
  have HO := Lib.hid h
  obtain ⟨b0, b1, r0, r1, w0, w1, m0, m1, s0, s1⟩ := h
  have hkl := keys_bd c l
  have hpos := keys_pos (c := c) (l := l)
  have HY := Lib.hid (@cols_yes c l k)
  have HNo := Lib.hid (@cols_no c l k)
  obtain ⟨K, hK⟩ : ∃ K, keys c l = K := ⟨_, rfl⟩
  rw [hK] at hkl hpos HY HNo
  by_cases h1 : k < K
  · obtain ⟨hr, hl0, hl1⟩ := hpos.1 (by omega)
    have hb59 := hr.2.1
    have hr1 := hr.2.2.1
    have hr2 := hr.2.2.2.1
    have HC := Lib.hid (HY.out h1)
    obtain ⟨R, hR⟩ : ∃ R : Nat, c.rw = R := ⟨c.rw.toNat, by omega⟩
    have HR : Hid (c.rw.toNat = R) := Lib.hid (by omega)
    have hR8 : R ≤ 8 := by omega
    have HRW := Lib.hid hR
    clear hpos hr hR
    go_enter Tryz.func72, Tryz.ntmps72
    go_wp2_with (go_at_call 24; (with_reducible refine (rkeys_any c l _ HO.out l0 l1).mono ?_); rintro e w' ⟨he, hb⟩; rw [hK] at he; subst he; obtain ⟨bs, d, rfl⟩ := below_grow hb; clear hb)
    obtain ⟨wK, hw1⟩ : ∃ wK : World, wK = grow ((w.alloc (.cells #[.int .i64 c.bt, .int .i64 c.rw, .int .i64 c.wd, .int .i64 c.md, .int .u64 c.sd] 24)).alloc (.cells #[] 3)) bs d := ⟨_, rfl⟩
    have hwb : Below w.heap.size w wK := by rw [hw1]; repeat' (first | (with_reducible exact Below.refl _ _) | (with_reducible assumption) | (with_reducible refine below_over ?_ _ _) | (with_reducible refine Lw.below_alloc ?_ _) | (with_reducible refine Below.drew ?_) | (with_reducible refine below_drewN ?_ _) | (with_reducible refine Below.setCell ?_ ?_ _) | go_size)
    have hwc : wK.heap[w.heap.size]? = some (.cells #[.int .i64 c.bt, .int .i64 c.rw, .int .i64 c.wd, .int .i64 c.md, .int .u64 c.sd] 24 (0, 0)) := by
      rw [hw1, (grow_below _ bs d).block _ (by simp), (Lw.below_alloc (Below.refl (w.alloc (.cells #[.int .i64 c.bt, .int .i64 c.rw, .int .i64 c.wd, .int .i64 c.md, .int .u64 c.sd] 24)).heap.size _) _).block _ (by simp)]
      exact heap_alloc_new w _
    have hwo : wK.ownsRow (w.heap.size + 1) 3 1 (.slice (some ⟨w.heap.size + 1, 0, none⟩) 0 0) 0 (([] : List Int).map (Value.int .i64)) := by
      rw [hw1]
      have h := own_empty (w.alloc (.cells #[.int .i64 c.bt, .int .i64 c.rw, .int .i64 c.wd, .int .i64 c.md, .int .u64 c.sd] 24)) 3 1 (w.heap.size + 1) (by simp)
      have e : (w.alloc (.cells #[.int .i64 c.bt, .int .i64 c.rw, .int .i64 c.wd, .int .i64 c.md, .int .u64 c.sd] 24)).heap.size = w.heap.size + 1 := by simp
      rw [e] at h
      exact (Kept.of_below (F := fun _ => False) (grow_below _ bs d)).own h (fun _ _ h => h)
    rw [← hw1]
    clear hw1
    have HW := Lib.hid hwb
    have HX := Lib.hid hwc
    have HY2 := Lib.hid hwo
    clear hwb hwc hwo
    go_loopw [7, 8] (fun v i wr => ∃ (r g cp : Nat), r ≤ R ∧ i = .int .i64 r ∧ v = .slice (some ⟨g, 0, none⟩) r cp ∧ wr.ownsRow (w.heap.size + 1) 3 1 v r (((List.range r).map (col c l k)).map (Value.int .i64)) ∧ wr.heap[w.heap.size]? = some (.cells #[.int .i64 c.bt, .int .i64 c.rw, .int .i64 c.wd, .int .i64 c.md, .int .u64 c.sd] 24 (0, 0)) ∧ Below w.heap.size w wr) (fun _ i _ => R - (intOf i).toNat)
    case atStart => exact ⟨0, _, 0, Nat.zero_le _, rfl, rfl, HY2.out, HX.out, HW.out⟩
    case round =>
      obtain ⟨r, g, cp, hrR, rfl, rfl, hown, hbox, hbel⟩ := hrel
      have hwl : w.heap.size < wr.heap.size := by
        rcases Nat.lt_or_ge w.heap.size wr.heap.size with h | h
        · exact h
        · rw [Array.getElem?_eq_none h] at hbox; cases hbox
      have x1 : wr.cell? ⟨w.heap.size, 1, none⟩ = some (.int .i64 c.rw) := by simp [World.cell?, hbox]
      have x2 : wr.cell? ⟨w.heap.size, 2, none⟩ = some (.int .i64 c.wd) := by simp [World.cell?, hbox]
      have x4 : wr.cell? ⟨w.heap.size, 4, none⟩ = some (.int .u64 c.sd) := by simp [World.cell?, hbox]
      have HOW := Lib.hid hown
      have HBX := Lib.hid hbox
      have HBL := Lib.hid hbel
      clear hown hbox hbel
      rw [HRW.out] at x1
      by_cases hlt : r < R
      · obtain ⟨pa, hpa⟩ : ∃ pa, Sed.pairA c.sd l r = pa := ⟨_, rfl⟩
        obtain ⟨pb, hpb⟩ : ∃ pb, Sed.pairB c.sd l r = pb := ⟨_, rfl⟩
        have ba := Sed.pairA_bd c.sd l r
        have bb := Sed.pairB_bd c.sd l r
        have hok : Sed.okRow l r := ⟨hl0, by have := b1; omega, by omega, by omega⟩
        have ba := ba hok
        have bb := bb hok
        rw [hpa] at ba
        rw [hpb] at bb
        obtain ⟨X, hX⟩ : ∃ X, Hsh.buck pa pb k c.wd = X := ⟨_, rfl⟩
        have hcol : col c l k r = X := by unfold col; rw [hpa, hpb, hX]
        have HN := Lib.hid (range_next (col c l k) r)
        rw [hcol] at HN
        clear hcol hok
        go_wp2_with (first
          | (go_at_call 80; (with_reducible refine (Sed.rpair_any c.sd l r _ l0 l1 (by omega) (by omega)).mono ?_); rintro e w' ⟨he, rfl⟩; rw [hpa, hpb] at he; subst he)
          | (go_at_call 81; (with_reducible refine (Hsh.rbucket_any pa pb k c.wd _ (by omega) (by omega) (by omega) (by omega) k0 k1 w0 w1).mono ?_); rintro e w' ⟨he, rfl⟩; rw [hX] at he; subst he)
          | (at_builtin; (refine app_one .i64 rfl _ _ 142 rfl (w.heap.size + 1) 3 i0 8 ints_u hi hi0 hi1 hi2 (.slice (some ⟨g, 0, none⟩) r cp) r ((List.range r).map (col c l k)) rfl (HOW.out.alloc _) X wr.heap.size rfl (cell_one_new _ _ _) (by unfold maxLen; omega) (by omega) (by simp; omega) ?_); intro v1 w2 own1 grow1 oth1; obtain ⟨gg, cc, rfl, hgg, hgl⟩ := own1.form (by omega)))
        go_roundw
        case rel =>
          have hge := own_ge HOW.out
          refine ⟨r + 1, gg, cc, by omega, by go_num, rfl, by rw [HN.out]; exact own1, ?_, ?_⟩
          · refine ((Kept.refl (fun q => q = g) _).grown grow1 (fun q hq => .inl (by simpa [Value.ownBlock] using hq.symm))).heap (o := _) ?_ (by have := hge g rfl; omega)
            rw [(Lw.below_alloc (Below.refl wr.heap.size wr) _).block _ hwl]
            exact HBX.out
          · exact app_below3 (Lw.below_alloc HBL.out _) grow1 (fun q hq => by have := hge q hq; omega)
        case measure => simp [intOf]; omega
      · have e : r = R := by omega
        subst e
        obtain ⟨A, cp2, hv, hrd, h2, h3, h4⟩ := own_rd HOW.out
        injection hv with hv1 hv2 hv3
        subst hv1 hv3
        have hlen : ((List.range r).map (col c l k)).length = r := by simp
        have HCC : Hid (cols c l k = (List.range r).map (col c l k)) := Lib.hid (by rw [HC.out, HR.out])
        have HRD := Lib.hid hrd
        clear hrd h4
        go_wp2
        go_ret
        exact ⟨⟨g, 0, none⟩, cp, by rw [HCC.out, hlen]; rfl, by rw [HCC.out]; exact HRD.out, by rw [HCC.out, hlen]; exact h2, h3, HBL.out⟩
  · have HC := Lib.hid (HNo.out h1)
    clear hpos
    go_enter Tryz.func72, Tryz.ntmps72
    go_wp2_with (go_at_call 24; (with_reducible refine (rkeys_any c l _ HO.out l0 l1).mono ?_); rintro e w' ⟨he, hb⟩; rw [hK] at he; subst he; obtain ⟨bs, d, rfl⟩ := below_grow hb; clear hb)
    all_goals go_ret
    all_goals refine ⟨⟨w.heap.size + 1, 0, none⟩, 0, by rw [HC.out]; rfl, by rw [HC.out]; exact rd_nil _ _ _, by rw [HC.out]; exact Nat.le_refl _, by decide, ?_⟩
    all_goals (repeat' (first | (with_reducible exact Below.refl _ _) | (with_reducible assumption) | (with_reducible refine below_over ?_ _ _) | (with_reducible refine Lw.below_alloc ?_ _) | (with_reducible refine Below.drew ?_) | (with_reducible refine below_drewN ?_ _) | (with_reducible refine Below.setCell ?_ ?_ _) | go_size))
def anyC (c : Cfg) (b v : Int) : Cfg := ⟨1 + c.bt % 65536 % b, 1 + c.rw % 65536 % 4, 1 + c.wd % 65536 % v, 1 + c.md % 65536 % 3, c.sd⟩
theorem any_right (c : Cfg) (b v : Int) (hb0 : 1 ≤ b) (hb1 : b ≤ 59) (hv0 : 1 ≤ v) (hv1 : v ≤ 128) : IsRight (anyC c b v) := by
  have h1 := Int.emod_nonneg (c.bt % 65536) (show b ≠ 0 by omega)
  have h2 := Int.emod_lt_of_pos (c.bt % 65536) (show 0 < b by omega)
  have h3 := Int.emod_nonneg (c.wd % 65536) (show v ≠ 0 by omega)
  have h4 := Int.emod_lt_of_pos (c.wd % 65536) (show 0 < v by omega)
  unfold IsRight anyC
  dsimp only
  refine ⟨by omega, by omega, by omega, by omega, by omega, by omega, by omega, by omega⟩
theorem any_ok (c : Cfg) (h : c.Ok) (b v : Int) (hb0 : 1 ≤ b) (hb1 : b ≤ 59) (hv0 : 1 ≤ v) (hv1 : v ≤ 128) : (anyC c b v).Ok := by
  obtain ⟨g1, g2, g3, g4, g5, g6, g7, g8⟩ := any_right c b v hb0 hb1 hv0 hv1
  exact ⟨by omega, by omega, by omega, by omega, by omega, by omega, by omega, by omega, h.s0, h.s1⟩
theorem any_part (x m : Int) (hm0 : 1 ≤ m) (hm1 : m ≤ 65536) : ∃ X, bits .and .i64 x 65535 = X ∧ 0 ≤ X ∧ X ≤ 65535 ∧ Int.tmod X m = x % 65536 % m ∧ 0 ≤ x % 65536 % m ∧ x % 65536 % m ≤ 65535 := by
  refine ⟨x % 65536, and16i x, by omega, by omega, ?_, Int.emod_nonneg _ (by omega), ?_⟩
  · rw [Int.tmod_eq_emod_of_nonneg (by omega)]
  · have := Int.emod_lt_of_pos (x % 65536) (show 0 < m by omega)
    omega
set_option maxRecDepth 100000 in
theorem rany_any (c : Cfg) (b v : Int) (w : World) (h : c.Ok) (hb0 : 1 ≤ b) (hb1 : b ≤ 59) (hv0 : 1 ≤ v) (hv1 : v ≤ 128) :
    Calls Tryz.prog 8 #[.agg #[.int .i64 c.bt, .int .i64 c.rw, .int .i64 c.wd, .int .i64 c.md, .int .u64 c.sd], .int .i64 b, .int .i64 v] w fun e w' => e = .returned (.agg #[.int .i64 (anyC c b v).bt, .int .i64 (anyC c b v).rw, .int .i64 (anyC c b v).wd, .int .i64 (anyC c b v).md, .int .u64 (anyC c b v).sd]) ∧ Below w.heap.size w w' := by
  obtain ⟨X1, a1, b1, c1, d1, e1, f1⟩ := any_part c.bt b hb0 (by omega)
  obtain ⟨X2, a2, b2, c2, d2, e2, f2⟩ := any_part c.rw 4 (by omega) (by omega)
  obtain ⟨X3, a3, b3, c3, d3, e3, f3⟩ := any_part c.wd v hv0 (by omega)
  obtain ⟨X4, a4, b4, c4, d4, e4, f4⟩ := any_part c.md 3 (by omega) (by omega)
  unfold anyC
  obtain ⟨Y1, h1⟩ : ∃ Y, c.bt % 65536 % b = Y := ⟨_, rfl⟩
  obtain ⟨Y2, h2⟩ : ∃ Y, c.rw % 65536 % 4 = Y := ⟨_, rfl⟩
  obtain ⟨Y3, h3⟩ : ∃ Y, c.wd % 65536 % v = Y := ⟨_, rfl⟩
  obtain ⟨Y4, h4⟩ : ∃ Y, c.md % 65536 % 3 = Y := ⟨_, rfl⟩
  rw [h1] at d1 e1 f1
  rw [h2] at d2 e2 f2
  rw [h3] at d3 e3 f3
  rw [h4] at d4 e4 f4
  rw [h1, h2, h3, h4]
  clear h1 h2 h3 h4
  obtain ⟨k0, k1, k2, k3, k4, k5, k6, k7, k8, k9⟩ := h
  have nb : ¬ b = 0 := by omega
  have nv : ¬ v = 0 := by omega
  go_enter Tryz.func8, Tryz.ntmps8
  go_wp2
  go_region
  go_wp2
  go_returns
  refine ⟨rfl, ?_⟩
  repeat' (first | (with_reducible exact Below.refl _ _) | (with_reducible assumption) | (with_reducible refine below_over ?_ _ _) | (with_reducible refine Lw.below_alloc ?_ _) | (with_reducible refine Below.drew ?_) | (with_reducible refine below_drewN ?_ _) | (with_reducible refine Below.setCell ?_ ?_ _) | go_size)
theorem rany_at (c : Cfg) (b v : Int) (C : Cfg) (w : World) (h : c.Ok) (hb0 : 1 ≤ b) (hb1 : b ≤ 59) (hv0 : 1 ≤ v) (hv1 : v ≤ 128) (hC : anyC c b v = C) :
    Calls Tryz.prog 8 #[.agg #[.int .i64 c.bt, .int .i64 c.rw, .int .i64 c.wd, .int .i64 c.md, .int .u64 c.sd], .int .i64 b, .int .i64 v] w fun e w' => e = .returned (.agg #[.int .i64 C.bt, .int .i64 C.rw, .int .i64 C.wd, .int .i64 C.md, .int .u64 C.sd]) ∧ Below w.heap.size w w' := by
  subst hC
  exact rany_any c b v w h hb0 hb1 hv0 hv1
theorem level_of (x m : Int) (h0 : 1 ≤ m) (h1 : m ≤ 65536) : ∃ X L, bits .and .i64 x 65535 = X ∧ 0 ≤ X ∧ X ≤ 65535 ∧ Int.tmod X m = L ∧ 0 ≤ L ∧ L < m := by
  obtain ⟨X, a, b, c, d, e, f⟩ := any_part x m h0 h1
  exact ⟨X, x % 65536 % m, a, b, c, d, e, Int.emod_lt_of_pos _ (by omega)⟩
theorem keys_half {c : Cfg} (h : IsRight c) {l : Int} (h0 : 0 ≤ l) (h1 : l < c.bt) : keys c l = 2 * keys c (l + 1) := by
  rw [keys_yes h h0 (by omega), keys_yes h (by omega) (by omega)]
  have e : (c.bt - l).toNat = (c.bt - (l + 1)).toNat + 1 := by omega
  rw [e, Int.pow_succ, Int.mul_comm]
theorem keys_top {c : Cfg} (h : IsRight c) : keys c c.bt = 1 := by
  rw [keys_yes h (by have := h.1; omega) (by omega)]
  have e : (c.bt - c.bt).toNat = 0 := by omega
  rw [e]
  rfl
theorem exact_up {c : Cfg} (h : IsRight c) {l : Int} (h0 : 0 ≤ l) (h1 : l < c.bt) (he : exactB c l = true) : exactB c (l + 1) = true := by
  have e := of_decide_eq_true he
  have k := keys_half h h0 h1
  have p := keys_pos.2 ⟨h, (by omega : 0 ≤ l + 1), (by omega : l + 1 ≤ c.bt)⟩
  exact decide_eq_true ⟨p, by omega⟩
theorem exact_top {c : Cfg} (h : IsRight c) : exactB c c.bt = true := decide_eq_true ⟨by rw [keys_top h]; omega, by rw [keys_top h]; exact h.2.2.2.2.1⟩
end Go.Proofs.YtiblpdjehknbcaaGreat.Shp
/- Columns that meet a grid, the cells that they name, what a change makes of them: in numbers. For stages from 8 on. -/
namespace Go.Proofs.YtiblpdjehknbcaaGreat.Lin
open Go Go.RowKit Lw Grd
set_option linter.unusedVariables false
def Meets (m n : Nat) (cols : List Int) : Prop := 1 ≤ m ∧ cols.length = m ∧ ∀ v ∈ cols, 0 ≤ v ∧ v < n
instance (m n : Nat) (cols : List Int) : Decidable (Meets m n cols) := by unfold Meets; infer_instance
def meetB (m n : Nat) (cols : List Int) : Bool := decide (Meets m n cols)
def named (L : List (List Int)) (cols : List Int) : List Int := List.zipWith (fun r c => r[c.toNat]?.getD 0) L cols
def changed (L : List (List Int)) (cols : List Int) (d : Int) : List (List Int) := List.zipWith (fun r c => r.set c.toNat (r[c.toNat]?.getD 0 + d)) L cols
def chFits (L : List (List Int)) (cols : List Int) (d : Int) : Bool := (named L cols).all (fun x => Wid.fit64 (x + d))
def chCode (m n : Nat) (L : List (List Int)) (cols : List Int) (d : Int) : Int := if Meets m n cols then (if chFits L cols d = true then 0 else 4) else 1
def chRes (m n : Nat) (L : List (List Int)) (cols : List Int) (d : Int) : List (List Int) := if Meets m n cols ∧ chFits L cols d = true then changed L cols d else L
def readOf (m n : Nat) (L : List (List Int)) (cols : List Int) : List Int := if Meets m n cols then named L cols else []
def rdCode (m n : Nat) (cols : List Int) : Int := if Meets m n cols then 0 else 1
theorem named_next (L : List (List Int)) (cols : List Int) (k : Nat) (r : List Int) (v : Int) (hr : L[k]? = some r) (hv : cols[k]? = some v) : named (L.take (k + 1)) (cols.take (k + 1)) = named (L.take k) (cols.take k) ++ [r[v.toNat]?.getD 0] := by
  obtain ⟨h1, e1⟩ := List.getElem?_eq_some_iff.1 hr
  obtain ⟨h2, e2⟩ := List.getElem?_eq_some_iff.1 hv
  unfold named
  rw [List.take_succ_eq_append_getElem h1, List.take_succ_eq_append_getElem h2, List.zipWith_append (by simp; omega), e1, e2]
  rfl
theorem named_len {L : List (List Int)} {cols : List Int} (h : cols.length = L.length) : (named L cols).length = L.length := by unfold named; rw [List.length_zipWith]; omega
end Go.Proofs.YtiblpdjehknbcaaGreat.Lin
/- Rows that are filled from the first on; the cells that columns name, one by one. -/
namespace Go.Proofs.YtiblpdjehknbcaaGreat.Lin
open Go Go.RowKit Lw Grd
set_option linter.unusedVariables false
set_option linter.unusedSimpArgs false
/-! ### The first k of Y, and the rest of X -/
def upto2 {α : Type} (X Y : List α) (k : Nat) : List α := Y.take k ++ X.drop k
theorem upto2_start {α : Type} (X Y : List α) : upto2 X Y 0 = X := by simp [upto2]
theorem upto2_end {α : Type} {X Y : List α} {n : Nat} (hX : X.length = n) (hY : Y.length = n) : upto2 X Y n = Y := by
  unfold upto2
  rw [List.drop_of_length_le (by omega), List.append_nil, List.take_of_length_le (by omega)]
theorem upto2_get {α : Type} {X Y : List α} {n k : Nat} (hX : X.length = n) (hY : Y.length = n) (hk : k < n) : (upto2 X Y k)[k]? = X[k]? := by
  unfold upto2
  rw [List.getElem?_append_right (by rw [List.length_take]; omega), List.getElem?_drop, List.length_take]
  congr 1
  omega
theorem upto2_set {α : Type} {X Y : List α} {n k : Nat} {y : α} (hX : X.length = n) (hY : Y.length = n) (hy : Y[k]? = some y) : (upto2 X Y k).set k y = upto2 X Y (k + 1) := by
  obtain ⟨hk, he⟩ := List.getElem?_eq_some_iff.1 hy
  have hl : (Y.take k).length = k := by rw [List.length_take]; omega
  unfold upto2
  rw [List.set_append_right _ _ (by omega), hl, Nat.sub_self, List.take_succ_eq_append_getElem hk, he, List.append_assoc]
  congr 1
  rw [List.drop_eq_getElem_cons (by omega)]
  rfl
theorem upto2_len {α : Type} {X Y : List α} {n k : Nat} (hX : X.length = n) (hY : Y.length = n) (hk : k ≤ n) : (upto2 X Y k).length = n := by
  unfold upto2
  rw [List.length_append, List.length_take, List.length_drop]
  omega
/-! ### Columns that meet -/
theorem meets_at {m n : Nat} {cols : List Int} (h : Meets m n cols) {k : Nat} {v : Int} (hv : cols[k]? = some v) : 0 ≤ v ∧ v < n := h.2.2 v (List.mem_of_getElem? hv)
theorem named_at {m n : Nat} {L : List (List Int)} {cols : List Int} (hd : Dims m n L) (h : Meets m n cols) {k : Nat} {v : Int} (hv : cols[k]? = some v) : (named L cols)[k]? = some (at2 L k v) := by
  have hk : k < cols.length := (List.getElem?_eq_some_iff.1 hv).1
  have hl : k < L.length := by rw [hd.len, ← h.2.1]; exact hk
  have hb := meets_at h hv
  unfold named at2
  rw [List.getElem?_zipWith, hv, List.getElem?_eq_getElem hl, if_neg (by omega)]
  simp [List.getElem?_eq_getElem hl]
theorem changed_at {m n : Nat} {L : List (List Int)} {cols : List Int} (hd : Dims m n L) (h : Meets m n cols) (d : Int) {k : Nat} {v : Int} (hv : cols[k]? = some v) : (changed L cols d)[k]? = (L[k]?.map (fun r => r.set v.toNat (at2 L k v + d))) := by
  have hk : k < cols.length := (List.getElem?_eq_some_iff.1 hv).1
  have hl : k < L.length := by rw [hd.len, ← h.2.1]; exact hk
  have hb := meets_at h hv
  unfold changed at2
  rw [List.getElem?_zipWith, hv, List.getElem?_eq_getElem hl, if_neg (by omega)]
  simp [List.getElem?_eq_getElem hl]
theorem changed_len {L : List (List Int)} {cols : List Int} (d : Int) (h : cols.length = L.length) : (changed L cols d).length = L.length := by unfold changed; rw [List.length_zipWith]; omega
theorem named_in {m n : Nat} {L : List (List Int)} {cols : List Int} (hd : Dims m n L) : In64 (named L cols) := by
  intro v hv
  unfold named at hv
  obtain ⟨i, hi, e⟩ := List.mem_iff_getElem.1 hv
  rw [List.getElem_zipWith] at e
  rw [List.length_zipWith] at hi
  have h2 := hd.rows _ (List.getElem_mem (show i < L.length by omega))
  subst e
  cases e3 : (L[i]'(by omega))[(cols[i]'(by omega)).toNat]? with
  | none => simp
  | some x => exact h2.2 _ (List.mem_of_getElem? e3)
theorem put_at {m n : Nat} {L : List (List Int)} {cols : List Int} (hd : Dims m n L) (h : Meets m n cols) (d : Int) {k : Nat} {v : Int} (hv : cols[k]? = some v) (hD : Dims m n (upto2 L (changed L cols d) k)) :
    setL (upto2 L (changed L cols d) k) k v (at2 L k v + d) = upto2 L (changed L cols d) (k + 1) := by
  have hk : k < cols.length := (List.getElem?_eq_some_iff.1 hv).1
  have hl : cols.length = L.length := by rw [hd.len]; exact h.2.1
  have hb := meets_at h hv
  have hL : L[k]? = some (L[k]'(by omega)) := List.getElem?_eq_getElem (by omega)
  have hY := changed_at hd h d hv
  rw [hL] at hY
  have hX := upto2_get (X := L) (Y := changed L cols d) (n := L.length) rfl (changed_len d hl) (k := k) (by omega)
  rw [hL] at hX
  have hin : in2 (upto2 L (changed L cols d) k) k v = true := by
    rw [in2_dims hD]
    have := hd.len
    exact decide_eq_true ⟨by omega, by omega, hb.1, hb.2⟩
  rw [← upto2_set (n := L.length) rfl (changed_len d hl) hY]
  unfold setL
  rw [if_pos hin]
  apply List.ext_getElem?
  intro i
  rw [List.getElem?_modify, List.getElem?_set, Int.toNat_natCast]
  have hln := upto2_len (X := L) (Y := changed L cols d) (n := L.length) rfl (changed_len d hl) (k := k) (by omega)
  by_cases e : k = i
  · subst e
    rw [hX, if_pos rfl, hln, if_pos (by omega)]
    simp
  · rw [if_neg e]
    simp [e]
theorem dims_upto {m n : Nat} {L : List (List Int)} {cols : List Int} (hd : Dims m n L) (h : Meets m n cols) (d : Int) (hf : chFits L cols d = true) : ∀ k, k ≤ m → Dims m n (upto2 L (changed L cols d) k)
  | 0, _ => by rw [upto2_start]; exact hd
  | k + 1, hk => by
    have ih := dims_upto hd h d hf k (by omega)
    have hv : cols[k]? = some (cols[k]'(by have := h.2.1; omega)) := List.getElem?_eq_getElem _
    rw [← put_at hd h d hv ih]
    have h2 : Wid.fit64 (at2 L k (cols[k]'(by have := h.2.1; omega)) + d) = true := (List.all_eq_true.1 hf) _ (List.mem_of_getElem? (named_at hd h hv))
    have h3 := of_decide_eq_true h2
    exact ih.set _ _ (by omega) (by omega)
end Go.Proofs.YtiblpdjehknbcaaGreat.Lin
/- The walks of package linear (the code's): columns that meet a grid, the numbers that they name, a change, the least and the middle one. -/
namespace Go.Proofs.YtiblpdjehknbcaaGreat.Lin
open Go Go.RowKit Lw Grd
set_option linter.unusedVariables false
set_option linter.unusedSimpArgs false
theorem ret_b {a b : Bool} (h : a = b) : Ending.returned (.bool a) = Ending.returned (.bool b) := by rw [h]
theorem meetB_no1 {m n : Nat} {cols : List Int} (h : m = 0) : meetB m n cols = false := decide_eq_false (fun g => by have := g.1; omega)
theorem meetB_no2 {m n : Nat} {cols : List Int} (h : cols.length ≠ m) : meetB m n cols = false := decide_eq_false (fun g => h g.2.1)
theorem meetB_no3 {m n : Nat} {cols : List Int} {k : Nat} {v : Int} (hv : cols[k]? = some v) (h : v < 0 ∨ n ≤ v) : meetB m n cols = false := decide_eq_false (fun g => by have := meets_at g hv; omega)
theorem in_next {n : Nat} {cols : List Int} {k : Nat} {v : Int} (h : ∀ x ∈ cols.take k, 0 ≤ x ∧ x < n) (hv : cols[k]? = some v) (h0 : 0 ≤ v) (h1 : v < n) : ∀ x ∈ cols.take (k + 1), 0 ≤ x ∧ x < (n : Int) := by
  obtain ⟨hk, e⟩ := List.getElem?_eq_some_iff.1 hv
  rw [List.take_succ_eq_append_getElem hk, e]
  intro x hx
  rcases List.mem_append.1 hx with hx | hx
  · exact h x hx
  · simp at hx; subst hx; exact ⟨h0, h1⟩
set_option maxRecDepth 100000 in
theorem meets_eq (p : Addr) (F : Nat → Prop) (m n : Nat) (L : List (List Int)) (A : Option Addr) (N cap : Nat) (cols : List Int) (w : World) (h : PG w p F m n L) (hc : Rd .i64 w A cols) (hl : cols.length = N) (hN : N ≤ 1000) (hz : In64 cols) :
    Calls Tryz.prog 161 #[.pointer (some p), .slice A N cap] w fun e w' => e = .returned (.bool (meetB m n cols)) ∧ w' = w := by
  have HP := Lib.hid h
  have m8 := h.1.m8
  have n128 := h.1.n128
  clear h
  by_cases hm : m = 0
  · have HE := Lib.hid (meetB_no1 (n := n) (cols := cols) hm)
    have t1 : ((m : Int) == 0) = true := by simp; omega
    clear hm hc hl hz
    go_enter Tryz.func161, Tryz.ntmps161
    go_wp2_with (first
        | (go_at_call 142; (with_reducible refine (rows_eq p F m n L _ HP.out).mono ?_); rintro e wx ⟨rfl, hw⟩; subst wx)
        | (go_at_call 126; (with_reducible refine (width_eq p F m n L _ HP.out).mono ?_); rintro e wx ⟨rfl, hw⟩; subst wx))
    go_ret
    exact ⟨ret_b HE.out.symm, rfl⟩
  have t0 : ((m : Int) == 0) = false := by simp; omega
  by_cases hmn : N = m
  · have t1 : ((N : Int) != (m : Int)) = false := by simp; omega
    have HL := Lib.hid hl
    have HC := Lib.hid hc
    have HZ := Lib.hid hz
    have HM : Hid (1 ≤ m ∧ cols.length = m) := Lib.hid ⟨by omega, by omega⟩
    clear hl hc hz
    go_enter Tryz.func161, Tryz.ntmps161
    go_wp2_with (first
        | (go_at_call 142; (with_reducible refine (rows_eq p F m n L _ HP.out).mono ?_); rintro e wx ⟨rfl, hw⟩; subst wx)
        | (go_at_call 126; (with_reducible refine (width_eq p F m n L _ HP.out).mono ?_); rintro e wx ⟨rfl, hw⟩; subst wx))
    go_loopw [23] (fun i wr => ∃ (k : Nat), k ≤ N ∧ i = .int .i64 k ∧ wr = w ∧ ∀ x ∈ cols.take k, 0 ≤ x ∧ x < (n : Int)) (fun i _ => N - (intOf i).toNat)
    case atStart => exact ⟨0, Nat.zero_le _, rfl, rfl, fun x hx => by simp at hx⟩
    case round =>
      obtain ⟨k, hk, rfl, hwr, hA⟩ := hrel
      subst wr
      have HA := Lib.hid hA
      clear hA
      by_cases hlt : k < N
      · obtain ⟨v, hv⟩ : ∃ v, cols[k]? = some v := ⟨_, List.getElem?_eq_getElem (by rw [HL.out]; exact hlt)⟩
        obtain ⟨a, rfl⟩ := HC.out.some_of (by rw [HL.out]; omega)
        have hcell := HC.out.at hv
        have hvb := HZ.out.at hv
        have HV := Lib.hid hv
        clear hv
        by_cases s1 : v < 0
        · have HE := Lib.hid (meetB_no3 (m := m) (n := n) HV.out (.inl s1))
          go_wp2_with (first
        | (go_at_call 142; (with_reducible refine (rows_eq p F m n L _ HP.out).mono ?_); rintro e wx ⟨rfl, hw⟩; subst wx)
        | (go_at_call 126; (with_reducible refine (width_eq p F m n L _ HP.out).mono ?_); rintro e wx ⟨rfl, hw⟩; subst wx))
          go_ret
          exact ⟨ret_b HE.out.symm, rfl⟩
        by_cases s2 : (n : Int) ≤ v
        · have HE := Lib.hid (meetB_no3 (m := m) (n := n) HV.out (.inr s2))
          go_wp2_with (first
        | (go_at_call 142; (with_reducible refine (rows_eq p F m n L _ HP.out).mono ?_); rintro e wx ⟨rfl, hw⟩; subst wx)
        | (go_at_call 126; (with_reducible refine (width_eq p F m n L _ HP.out).mono ?_); rintro e wx ⟨rfl, hw⟩; subst wx))
          go_ret
          exact ⟨ret_b HE.out.symm, rfl⟩
        have HI := Lib.hid (in_next HA.out HV.out (by omega) (by omega))
        go_wp2_with (first
        | (go_at_call 142; (with_reducible refine (rows_eq p F m n L _ HP.out).mono ?_); rintro e wx ⟨rfl, hw⟩; subst wx)
        | (go_at_call 126; (with_reducible refine (width_eq p F m n L _ HP.out).mono ?_); rintro e wx ⟨rfl, hw⟩; subst wx))
        go_roundw
        case rel => exact ⟨k + 1, by omega, by go_num, trivial, HI.out⟩
        case measure => simp [intOf]; omega
      · have HE : Hid (meetB m n cols = true) := Lib.hid (decide_eq_true ⟨HM.out.1, HM.out.2, by have h := HA.out; rwa [List.take_of_length_le (by rw [HL.out]; omega)] at h⟩)
        go_wp2
        go_ret
        exact ⟨ret_b HE.out.symm, rfl⟩
  · have HE := Lib.hid (meetB_no2 (n := n) (cols := cols) (m := m) (by rw [hl]; exact hmn))
    have t1 : ((N : Int) != (m : Int)) = true := by simp; omega
    clear hc hl hz
    go_enter Tryz.func161, Tryz.ntmps161
    go_wp2_with (first
        | (go_at_call 142; (with_reducible refine (rows_eq p F m n L _ HP.out).mono ?_); rintro e wx ⟨rfl, hw⟩; subst wx)
        | (go_at_call 126; (with_reducible refine (width_eq p F m n L _ HP.out).mono ?_); rintro e wx ⟨rfl, hw⟩; subst wx))
    go_ret
    exact ⟨ret_b HE.out.symm, rfl⟩
theorem meets_any (p : Addr) (F : Nat → Prop) (m n : Nat) (L : List (List Int)) (A : Option Addr) (N cap : Nat) (cols : List Int) (w : World) (h : PG w p F m n L) (hc : Rd .i64 w A cols) (hl : cols.length = N) (hN : N ≤ 1000) (hz : In64 cols) (b : Bool) (hb : meetB m n cols = b) :
    Calls Tryz.prog 161 #[.pointer (some p), .slice A N cap] w fun e w' => e = .returned (.bool b) ∧ w' = w := hb ▸ meets_eq p F m n L A N cap cols w h hc hl hN hz
theorem li64_info : (Tryz.prog.info? 2).map (fun i => (i.zero, i.size, i.bytes)) = some (some (.int .i64 0), 1, 8) := by kernel_rfl
theorem li64s_u : Tryz.prog.underlying 48 = some (.slice 2) := by kernel_rfl
theorem read_no (p : Addr) (F : Nat → Prop) (m n : Nat) (L : List (List Int)) (A : Option Addr) (N cap : Nat) (cols : List Int) (w : World) (h : PG w p F m n L) (hc : Rd .i64 w A cols) (hl : cols.length = N) (hN : N ≤ 1000) (hz : In64 cols) (hm : ¬ Meets m n cols) :
    Calls Tryz.prog 154 #[.pointer (some p), .slice A N cap] w fun e w' => e = .returned (.tuple #[.slice none 0 0, .int .i64 1]) ∧ w' = w := by
  have C := Lib.hid (meets_any p F m n L A N cap cols w h hc hl hN hz false (decide_eq_false hm))
  clear h hc hl hz hm
  go_enter Tryz.func154, Tryz.ntmps154
  go_wp2_with (go_at_call 161; (with_reducible refine C.out.mono ?_); rintro e wx ⟨rfl, hw⟩; subst wx)
  go_ret2
  exact ⟨rfl, rfl⟩
theorem rd_far {w : World} {a : Addr} {zs : List Int} {g : Nat} (h : Rd .i64 w (some a) zs) (hl : 0 < zs.length) (hg : w.heap.size ≤ g) : ∀ b, some a = some b → ¬ b.block = g := by
  intro b hb e
  injection hb with hb
  subst hb
  have hc := h.at (List.getElem?_eq_getElem hl)
  have e2 : (a.add 0).block = a.block := by unfold Addr.add; split <;> rfl
  have h2 := cell_lt hc
  rw [e2] at h2
  omega
set_option maxRecDepth 100000 in
set_option maxHeartbeats 4000000 in
theorem read_yes (p : Addr) (F : Nat → Prop) (m n : Nat) (L : List (List Int)) (A : Option Addr) (N cap : Nat) (cols : List Int) (w : World) (h : PG w p F m n L) (hc : Rd .i64 w A cols) (hl : cols.length = N) (hN : N ≤ 1000) (hz : In64 cols) (hm : Meets m n cols) :
    Calls Tryz.prog 154 #[.pointer (some p), .slice A N cap] w fun e w' => ∃ g, e = .returned (.tuple #[.slice (some ⟨g, 0, none⟩) N N, .int .i64 0]) ∧ Ord.Mid w' g 0 (named L cols) ∧ w.heap.size ≤ g ∧ Below w.heap.size w w' := by
  have C := Lib.hid (meets_any p F m n L A N cap cols w h hc hl hN hz true (decide_eq_true hm))
  obtain ⟨i0, hi, hz0, hz1, hz2⟩ := info_parts li64_info
  have hmk : ∀ w, (Instr.makeSlice 48 (.int .i64 (N : Int)) (.int .i64 (N : Int))).run Tryz.prog w = .ok (.slice (some ⟨w.heap.size, 0, none⟩) N N) (w.alloc (.cells (madeCells #[.int .i64 0] N) 2)) := by
    intro w
    have h := run_make (P := Tryz.prog) w 48 2 i0 (.int .i64 0) li64s_u hi hz0 .i64 .i64 N N (by omega) (Int.le_refl _) (by rw [hz2]; omega) (by omega)
    rw [hz1] at h
    simpa [Value.cells] using h
  obtain ⟨a, rfl⟩ := hc.some_of (by have := hm.1; have := hm.2.1; omega)
  have HP := Lib.hid h
  have HL := Lib.hid hl
  have HC := Lib.hid hc
  have HZ := Lib.hid hz
  have HM := Lib.hid hm
  clear hi hz0 hz1 hz2 h hl hc hz hm
  go_enter Tryz.func154, Tryz.ntmps154
  go_wp2_with (go_at_call 161; (with_reducible refine C.out.mono ?_); rintro e wx ⟨rfl, hw⟩; subst wx)
  have HM2 := Lib.hid (mid_made w N 2)
  obtain ⟨w2, hw2⟩ : ∃ w2, w2 = w.alloc (.cells (madeCells #[.int .i64 0] N) 2) := ⟨_, rfl⟩
  rw [← hw2] at HM2 ⊢
  have HB2 : Hid (Below w.heap.size w w2) := Lib.hid (by rw [hw2]; exact Lw.below_alloc (Below.refl _ _) _)
  obtain ⟨g, hg⟩ : ∃ g, w.heap.size = g := ⟨_, rfl⟩
  have HP2 := Lib.hid (pg_up HP.out HB2.out)
  have HC2 := Lib.hid (HC.out.up HB2.out)
  have HFg : Hid (∀ k, F k → ¬ k = g) := Lib.hid (fun k hk => by have := (pgT p F m n L).lt w HP.out k hk; omega)
  have HAg := Lib.hid (rd_far HC.out (by have := HM.out.1; have := HM.out.2.1; omega) (Nat.le_of_eq hg))
  have HD := Lib.hid HP.out.dims
  have hgw : w.heap.size ≤ g := by omega
  rw [hg] at HM2 ⊢
  clear hw2 hg
  obtain ⟨gad, hgad⟩ : ∃ gad : Addr, (⟨g, 0, none⟩ : Addr) = gad := ⟨_, rfl⟩
  have HG := Lib.hid hgad
  rw [hgad]
  go_loopw [18] (fun i wr => ∃ (j : Nat), j ≤ N ∧ i = .int .i64 j ∧ Ord.Mid wr g 0 (upto2 (List.replicate N 0) (named L cols) j) ∧ Kept (fun q => q = g) w2 wr) (fun i _ => N - (intOf i).toNat)
  case atStart => exact ⟨0, Nat.zero_le _, rfl, by rw [upto2_start]; exact HM2.out, Kept.refl _ _⟩
  case round =>
    obtain ⟨j, hj, rfl, hmid, hkept⟩ := hrel
    have HMI := Lib.hid hmid
    have HK := Lib.hid hkept
    clear hmid hkept
    have hnl : (named L cols).length = N := by rw [named_len (by rw [HD.out.len]; exact HM.out.2.1), HD.out.len, ← HM.out.2.1, HL.out]
    have HNL := Lib.hid hnl
    clear hnl
    by_cases hlt : j < N
    · obtain ⟨v, hv⟩ : ∃ v, cols[j]? = some v := ⟨_, List.getElem?_eq_getElem (by rw [HL.out]; exact hlt)⟩
      have hcell := (HC2.out.keep HK.out HAg.out).at hv
      have hvb := HZ.out.at hv
      have HPr : Hid (PG wr p F m n L) := Lib.hid ((pgT p F m n L).keep w2 wr _ HP2.out HK.out HFg.out)
      have HS := Lib.hid (upto2_set (X := List.replicate N 0) (by simp) HNL.out (named_at HD.out HM.out hv))
      have c1 := HMI.out.rd.at (upto2_get (X := List.replicate N 0) (by simp) HNL.out hlt ▸ (by simp [hlt] : (List.replicate N (0 : Int))[j]? = some 0))
      rw [hgad] at c1
      have fz1 := HMI.out.frozen (0 + j)
      rw [← Ord.add_at, hgad] at fz1
      clear hv
      go_wp2_with (go_at_call 128; (with_reducible refine (at_any p F m n L j v _ HPr.out (by omega) (by omega) hvb.1 hvb.2).mono ?_); rintro e5 w5 ⟨rfl, hb5⟩; have fz5 := (HMI.out.up hb5).frozen (0 + j); rw [← Ord.add_at, hgad] at fz5; have e1 := cell_up c1 hb5; have HB5 := Lib.hid hb5; clear hb5)
      go_roundw
      case rel =>
        have hm6 := (HMI.out.up HB5.out).set j (at2 L j v)
        have hk6 : Kept (fun q => q = g) w2 (w5.setCell ⟨g, 0 + j, none⟩ (.int .i64 (at2 L j v))) := (HK.out.then HB5.out).set (.inl rfl) _ _
        rw [HS.out, ← Ord.add_at, hgad] at hm6
        rw [← Ord.add_at, hgad] at hk6
        exact ⟨j + 1, by omega, by go_num, hm6, hk6⟩
      case measure => simp [intOf]; omega
    · have e : j = N := by omega
      subst e
      have hm := HMI.out
      rw [upto2_end (X := List.replicate _ 0) (by simp) HNL.out] at hm
      have HM3 := Lib.hid hm
      clear hm
      go_wp2
      go_ret2
      exact ⟨g, by rw [hgad]; rfl, HM3.out, hgw, HK.out.low HB2.out HB2.out.size (fun q hq => by omega)⟩
theorem readOf_no {m n : Nat} {L : List (List Int)} {cols : List Int} (h : ¬ Meets m n cols) : readOf m n L cols = [] ∧ rdCode m n cols = 1 := ⟨if_neg h, if_neg h⟩
theorem readOf_yes {m n : Nat} {L : List (List Int)} {cols : List Int} (h : Meets m n cols) : readOf m n L cols = named L cols ∧ rdCode m n cols = 0 := ⟨if_pos h, if_pos h⟩
theorem read_any (p : Addr) (F : Nat → Prop) (m n : Nat) (L : List (List Int)) (A : Option Addr) (N cap : Nat) (cols : List Int) (w : World) (h : PG w p F m n L) (hc : Rd .i64 w A cols) (hl : cols.length = N) (hN : N ≤ 1000) (hz : In64 cols) :
    Calls Tryz.prog 154 #[.pointer (some p), .slice A N cap] w fun e w' => ∃ (A2 : Option Addr) (len cap2 : Nat), e = .returned (.tuple #[.slice A2 len cap2, .int .i64 (rdCode m n cols)]) ∧ Rd .i64 w' A2 (readOf m n L cols) ∧ (readOf m n L cols).length = len ∧ len ≤ cap2 ∧ cap2 ≤ maxLen ∧ (A2 = none → len = 0 ∧ cap2 = 0) ∧ (∀ a, A2 = some a → w.heap.size ≤ a.block) ∧ Below w.heap.size w w' := by
  by_cases hm : Meets m n cols
  · rw [(readOf_yes (L := L) hm).1, (readOf_yes (L := L) hm).2]
    refine (read_yes p F m n L A N cap cols w h hc hl hN hz hm).mono ?_
    rintro e w' ⟨g, rfl, hmid, hg, hb⟩
    exact ⟨some ⟨g, 0, none⟩, N, N, rfl, hmid.rd, by rw [named_len (by rw [h.1.len]; exact hm.2.1), h.1.len, ← hm.2.1, hl], Nat.le_refl _, by unfold maxLen; omega, (fun e => by cases e), (fun a e => by injection e with e; subst e; exact hg), hb⟩
  · rw [(readOf_no (L := L) hm).1, (readOf_no (L := L) hm).2]
    refine (read_no p F m n L A N cap cols w h hc hl hN hz hm).mono ?_
    rintro e w' ⟨rfl, rfl⟩
    exact ⟨none, 0, 0, rfl, rd_nil _ _ _, rfl, Nat.le_refl _, Nat.zero_le _, fun _ => ⟨rfl, rfl⟩, (fun a e => by cases e), Below.refl _ _⟩
theorem tellings_any (w : World) :
    Calls Tryz.prog 160 #[] w fun e w' => ∃ g, e = .returned (.slice (some ⟨g, 0, none⟩) 2 2) ∧ w'.cell? ⟨g, 0, none⟩ = some (.func (.func 165) #[] #[]) ∧ w'.cell? ⟨g, 1, none⟩ = some (.func (.func 166) #[] #[]) ∧ Below w.heap.size w w' := by
  go_enter Tryz.func160, Tryz.ntmps160
  go_wp2
  go_ret
  exact ⟨w.heap.size, rfl, by simp [go_sem], by simp [go_sem], Lw.below_alloc (Below.refl _ _) _⟩
theorem told_no (p : Addr) (F : Nat → Prop) (m n : Nat) (L : List (List Int)) (A : Option Addr) (N cap : Nat) (cols : List Int) (at' : Int) (w : World) (h : PG w p F m n L) (hc : Rd .i64 w A cols) (hl : cols.length = N) (hN : N ≤ 1000) (hz : In64 cols) (hm : ¬ Meets m n cols) :
    Calls Tryz.prog 153 #[.pointer (some p), .slice A N cap, .int .i64 at'] w fun e w' => e = .returned (.tuple #[.int .i64 0, .int .i64 1]) ∧ w' = w := by
  have C := Lib.hid (read_no p F m n L A N cap cols w h hc hl hN hz hm)
  clear h hc hl hz hm
  go_enter Tryz.func153, Tryz.ntmps153
  go_wp2_with (go_at_call 154; (with_reducible refine C.out.mono ?_); rintro e wx ⟨rfl, hw⟩; subst wx)
  go_ret2
  exact ⟨rfl, rfl⟩
set_option maxRecDepth 100000 in
set_option maxHeartbeats 4000000 in
theorem told_least (p : Addr) (F : Nat → Prop) (m n : Nat) (L : List (List Int)) (A : Option Addr) (N cap : Nat) (cols : List Int) (w : World) (h : PG w p F m n L) (hc : Rd .i64 w A cols) (hl : cols.length = N) (hN : N ≤ 1000) (hz : In64 cols) (hm : Meets m n cols) :
    Calls Tryz.prog 153 #[.pointer (some p), .slice A N cap, .int .i64 0] w fun e w' => e = .returned (.tuple #[.int .i64 (Ord.kv (named L cols) (0)), .int .i64 0]) ∧ Below w.heap.size w w' := by
  have C := Lib.hid (read_yes p F m n L A N cap cols w h hc hl hN hz hm)
  have HL : Hid ((named L cols).length = N) := Lib.hid (by rw [named_len (by rw [h.1.len]; exact hm.2.1), h.1.len, ← hm.2.1, hl])
  have HI : Hid (In64 (named L cols)) := Lib.hid (named_in h.1)
  clear h hc hl hz hm
  go_enter Tryz.func153, Tryz.ntmps153
  go_wp2_with (first
    | (go_at_call 154; (with_reducible refine C.out.mono ?_); rintro e w1 ⟨g1, rfl, hm1, hg1, hb1⟩; have HM1 := Lib.hid hm1; have HB1 := Lib.hid hb1; clear hm1 hb1)
    | (go_at_call 160; (with_reducible refine (tellings_any _).mono ?_); rintro e w2 ⟨g2, rfl, hf0, hf1, hb2⟩; have HB2 := Lib.hid hb2; clear hb2)
    | (go_at_call 165; (with_reducible refine (Ord.min_any (some ⟨g1, 0, none⟩) N N (named L cols) _ (fun e => by cases e) (Nat.le_refl _) (by unfold maxLen; omega) (HM1.out.rd.up HB2.out) HL.out hN HI.out).mono ?_); rintro e w3 ⟨rfl, hb3⟩; have HB3 := Lib.hid hb3; clear hb3))
  go_ret2
  exact ⟨rfl, below_call (below_call HB1.out HB2.out (Nat.le_refl _)) HB3.out (Nat.le_refl _)⟩
set_option maxRecDepth 100000 in
set_option maxHeartbeats 4000000 in
theorem told_middle (p : Addr) (F : Nat → Prop) (m n : Nat) (L : List (List Int)) (A : Option Addr) (N cap : Nat) (cols : List Int) (w : World) (h : PG w p F m n L) (hc : Rd .i64 w A cols) (hl : cols.length = N) (hN : N ≤ 1000) (hz : In64 cols) (hm : Meets m n cols) :
    Calls Tryz.prog 153 #[.pointer (some p), .slice A N cap, .int .i64 1] w fun e w' => e = .returned (.tuple #[.int .i64 (Ord.kv (named L cols) ((((named L cols).length : Int) - 1) / 2)), .int .i64 0]) ∧ Below w.heap.size w w' := by
  have C := Lib.hid (read_yes p F m n L A N cap cols w h hc hl hN hz hm)
  have HL : Hid ((named L cols).length = N) := Lib.hid (by rw [named_len (by rw [h.1.len]; exact hm.2.1), h.1.len, ← hm.2.1, hl])
  have HI : Hid (In64 (named L cols)) := Lib.hid (named_in h.1)
  clear h hc hl hz hm
  go_enter Tryz.func153, Tryz.ntmps153
  go_wp2_with (first
    | (go_at_call 154; (with_reducible refine C.out.mono ?_); rintro e w1 ⟨g1, rfl, hm1, hg1, hb1⟩; have HM1 := Lib.hid hm1; have HB1 := Lib.hid hb1; clear hm1 hb1)
    | (go_at_call 160; (with_reducible refine (tellings_any _).mono ?_); rintro e w2 ⟨g2, rfl, hf0, hf1, hb2⟩; have HB2 := Lib.hid hb2; clear hb2)
    | (go_at_call 166; (with_reducible refine (Ord.median_any (some ⟨g1, 0, none⟩) N N (named L cols) _ (fun e => by cases e) (Nat.le_refl _) (by unfold maxLen; omega) (HM1.out.rd.up HB2.out) HL.out hN HI.out).mono ?_); rintro e w3 ⟨rfl, hb3⟩; have HB3 := Lib.hid hb3; clear hb3))
  go_ret2
  exact ⟨rfl, below_call (below_call HB1.out HB2.out (Nat.le_refl _)) HB3.out (Nat.le_refl _)⟩
theorem least_any (p : Addr) (F : Nat → Prop) (m n : Nat) (L : List (List Int)) (A : Option Addr) (N cap : Nat) (cols : List Int) (w : World) (h : PG w p F m n L) (hc : Rd .i64 w A cols) (hl : cols.length = N) (hN : N ≤ 1000) (hz : In64 cols) :
    Calls Tryz.prog 146 #[.pointer (some p), .slice A N cap] w fun e w' => e = .returned (.tuple #[.int .i64 (Ord.kv (readOf m n L cols) 0), .int .i64 (rdCode m n cols)]) ∧ Below w.heap.size w w' := by
  by_cases hm : Meets m n cols
  · have C := Lib.hid (told_least p F m n L A N cap cols w h hc hl hN hz hm)
    rw [(readOf_yes (L := L) hm).1, (readOf_yes (L := L) hm).2]
    clear h hc hl hz hm
    go_enter Tryz.func146, Tryz.ntmps146
    go_wp2_with (go_at_call 153; (with_reducible refine C.out.mono ?_); rintro e w1 ⟨rfl, hb1⟩; have HB1 := Lib.hid hb1; clear hb1)
    go_ret2
    exact ⟨rfl, HB1.out⟩
  · have C := Lib.hid (told_no p F m n L A N cap cols 0 w h hc hl hN hz hm)
    rw [(readOf_no (L := L) hm).1, (readOf_no (L := L) hm).2]
    rw [(Ord.kv_no (l := []) (k := _) (by simp)).1]
    clear h hc hl hz hm
    go_enter Tryz.func146, Tryz.ntmps146
    go_wp2_with (go_at_call 153; (with_reducible refine C.out.mono ?_); rintro e wx ⟨rfl, hw⟩; subst wx)
    go_ret2
    exact ⟨rfl, Below.refl _ _⟩
theorem middle_any (p : Addr) (F : Nat → Prop) (m n : Nat) (L : List (List Int)) (A : Option Addr) (N cap : Nat) (cols : List Int) (w : World) (h : PG w p F m n L) (hc : Rd .i64 w A cols) (hl : cols.length = N) (hN : N ≤ 1000) (hz : In64 cols) :
    Calls Tryz.prog 147 #[.pointer (some p), .slice A N cap] w fun e w' => e = .returned (.tuple #[.int .i64 (Ord.kv (readOf m n L cols) ((((readOf m n L cols).length : Int) - 1) / 2)), .int .i64 (rdCode m n cols)]) ∧ Below w.heap.size w w' := by
  by_cases hm : Meets m n cols
  · have C := Lib.hid (told_middle p F m n L A N cap cols w h hc hl hN hz hm)
    rw [(readOf_yes (L := L) hm).1, (readOf_yes (L := L) hm).2]
    clear h hc hl hz hm
    go_enter Tryz.func147, Tryz.ntmps147
    go_wp2_with (go_at_call 153; (with_reducible refine C.out.mono ?_); rintro e w1 ⟨rfl, hb1⟩; have HB1 := Lib.hid hb1; clear hb1)
    go_ret2
    exact ⟨rfl, HB1.out⟩
  · have C := Lib.hid (told_no p F m n L A N cap cols 1 w h hc hl hN hz hm)
    rw [(readOf_no (L := L) hm).1, (readOf_no (L := L) hm).2]
    rw [(Ord.kv_no (l := []) (k := _) (by simp)).1]
    clear h hc hl hz hm
    go_enter Tryz.func147, Tryz.ntmps147
    go_wp2_with (go_at_call 153; (with_reducible refine C.out.mono ?_); rintro e wx ⟨rfl, hw⟩; subst wx)
    go_ret2
    exact ⟨rfl, Below.refl _ _⟩
theorem change_no (p : Addr) (F : Nat → Prop) (m n : Nat) (L : List (List Int)) (A : Option Addr) (N cap : Nat) (cols : List Int) (d : Int) (w : World) (h : PG w p F m n L) (hc : Rd .i64 w A cols) (hl : cols.length = N) (hN : N ≤ 1000) (hz : In64 cols) (hm : ¬ Meets m n cols) :
    Calls Tryz.prog 148 #[.pointer (some p), .slice A N cap, .int .i64 d] w fun e w' => e = .returned (.int .i64 1) ∧ w' = w := by
  have C := Lib.hid (read_no p F m n L A N cap cols w h hc hl hN hz hm)
  clear h hc hl hz hm
  go_enter Tryz.func148, Tryz.ntmps148
  go_wp2_with (go_at_call 154; (with_reducible refine C.out.mono ?_); rintro e wx ⟨rfl, hw⟩; subst wx)
  go_ret
  exact ⟨rfl, rfl⟩
/-- The first k sums fit. -/
def sumsFit (Z : List Int) (d : Int) (k : Nat) : Prop := ∀ x ∈ Z.take k, Wid.fit64 (x + d) = true
theorem sums_next {Z : List Int} {d : Int} {k : Nat} {x : Int} (h : sumsFit Z d k) (hx : Z[k]? = some x) (hf : Wid.fit64 (x + d) = true) : sumsFit Z d (k + 1) := by
  obtain ⟨hk, e⟩ := List.getElem?_eq_some_iff.1 hx
  unfold sumsFit
  rw [List.take_succ_eq_append_getElem hk, e]
  intro y hy
  rcases List.mem_append.1 hy with hy | hy
  · exact h y hy
  · simp at hy; subst hy; exact hf
theorem sums_no {L : List (List Int)} {cols : List Int} {d : Int} {k : Nat} {x : Int} (hx : (named L cols)[k]? = some x) (hf : Wid.fit64 (x + d) = false) : chFits L cols d = false := by
  cases h : chFits L cols d with
  | false => rfl
  | true =>
    have h2 := List.all_eq_true.1 h x (List.mem_of_getElem? hx)
    rw [hf] at h2; cases h2
theorem sums_all {L : List (List Int)} {cols : List Int} {d : Int} {k : Nat} (h : sumsFit (named L cols) d k) (hk : (named L cols).length ≤ k) : chFits L cols d = true := by
  unfold sumsFit at h
  rw [List.take_of_length_le hk] at h
  exact List.all_eq_true.2 h
theorem ch_no {m n : Nat} {L : List (List Int)} {cols : List Int} {d : Int} (h : ¬ Meets m n cols) : chCode m n L cols d = 1 ∧ chRes m n L cols d = L := ⟨if_neg h, if_neg (fun g => h g.1)⟩
theorem ch_over {m n : Nat} {L : List (List Int)} {cols : List Int} {d : Int} (h : Meets m n cols) (hf : chFits L cols d = false) : chCode m n L cols d = 4 ∧ chRes m n L cols d = L := by
  unfold chCode chRes
  rw [if_pos h, hf, if_neg (by simp), if_neg (by simp)]
  exact ⟨rfl, rfl⟩
theorem ch_yes {m n : Nat} {L : List (List Int)} {cols : List Int} {d : Int} (h : Meets m n cols) (hf : chFits L cols d = true) : chCode m n L cols d = 0 ∧ chRes m n L cols d = changed L cols d := by
  unfold chCode chRes
  rw [if_pos h, if_pos hf, if_pos ⟨h, hf⟩]
  exact ⟨rfl, rfl⟩
set_option maxRecDepth 100000 in
set_option maxHeartbeats 4000000 in
theorem change_yes (p : Addr) (F : Nat → Prop) (m n : Nat) (L : List (List Int)) (A : Option Addr) (N cap : Nat) (cols : List Int) (d : Int) (w : World) (h : PG w p F m n L) (hc : Rd .i64 w A cols) (hap : ∀ a, A = some a → ¬ F a.block) (hl : cols.length = N) (hN : N ≤ 1000) (hz : In64 cols) (d0 : -9223372036854775808 ≤ d) (d1 : d ≤ 9223372036854775807) (hm : Meets m n cols) :
    Calls Tryz.prog 148 #[.pointer (some p), .slice A N cap, .int .i64 d] w fun e w' => e = .returned (.int .i64 (chCode m n L cols d)) ∧ ∃ F', PG w' p F' m n (chRes m n L cols d) ∧ Kept F w w' ∧ (∀ k, F' k → F k ∨ w.heap.size ≤ k) := by
  have C := Lib.hid (read_yes p F m n L A N cap cols w h hc hl hN hz hm)
  obtain ⟨a, rfl⟩ := hc.some_of (by have := hm.1; have := hm.2.1; omega)
  have HP := Lib.hid h
  have HL := Lib.hid hl
  have HC := Lib.hid hc
  have HZ := Lib.hid hz
  have HM := Lib.hid hm
  have HAP := Lib.hid hap
  have HD := Lib.hid h.dims
  have HNL : Hid ((named L cols).length = N) := Lib.hid (by rw [named_len (by rw [h.1.len]; exact hm.2.1), h.1.len, ← hm.2.1, hl])
  have HNI : Hid (In64 (named L cols)) := Lib.hid (named_in h.1)
  have HSL : Hid (((named L cols).map (fun x => x + d)).length = N) := Lib.hid (by rw [List.length_map]; exact HNL.out)
  clear h hl hc hz hm hap
  go_enter Tryz.func148, Tryz.ntmps148
  go_wp2_with (go_at_call 154; (with_reducible refine C.out.mono ?_); rintro e w1 ⟨g, rfl, hm1, hg1, hb1⟩; have HM1 := Lib.hid hm1; have HB1 := Lib.hid hb1; have HG1 := Lib.hid hg1; clear hm1 hb1 hg1)
  obtain ⟨gad, hgad⟩ : ∃ gad : Addr, (⟨g, 0, none⟩ : Addr) = gad := ⟨_, rfl⟩
  rw [hgad]
  go_loopw [26] (fun i wr => ∃ (j : Nat), j ≤ N ∧ i = .int .i64 j ∧ Ord.Mid wr g 0 (upto2 (named L cols) ((named L cols).map (fun x => x + d)) j) ∧ Kept (fun q => q = g) w1 wr ∧ sumsFit (named L cols) d j) (fun i _ => N - (intOf i).toNat)
  case atStart => exact ⟨0, Nat.zero_le _, rfl, by rw [upto2_start]; exact HM1.out, Kept.refl _ _, fun x hx => by simp at hx⟩
  case round =>
    obtain ⟨j, hj, rfl, hmid, hkept, hfit⟩ := hrel
    have HMI := Lib.hid hmid
    have HK := Lib.hid hkept
    have HF := Lib.hid hfit
    clear hmid hkept hfit
    by_cases hlt : j < N
    · obtain ⟨x, hx⟩ : ∃ x, (named L cols)[j]? = some x := ⟨_, List.getElem?_eq_getElem (by rw [HNL.out]; exact hlt)⟩
      have hxb := HNI.out.at hx
      have c1 := HMI.out.rd.at ((upto2_get HNL.out HSL.out hlt).trans hx)
      rw [hgad] at c1
      have HX := Lib.hid hx
      clear hx
      cases hf : Wid.fit64 (x + d) with
      | false =>
        have HO := Lib.hid (ch_over HM.out (sums_no HX.out hf))
        go_wp2_with (go_at_call 130; (with_reducible refine (Wid.plus_any x d _ hxb.1 hxb.2 d0 d1).mono ?_); rintro e5 w5 ⟨rfl, hb5⟩; rw [hf]; have HB5 := Lib.hid hb5; clear hb5)
        go_ret
        have hbb := ((HK.out.low HB1.out HB1.out.size (fun q hq => by have := HG1.out; omega)))
        have hb6 := below_call hbb HB5.out (Nat.le_refl _)
        exact ⟨ret_i HO.out.1.symm, F, HO.out.2.symm ▸ pg_up HP.out hb6, Kept.of_below hb6, fun k hk => .inl hk⟩
      | true =>
        have HV : Hid (Wid.f64 (x + d) = x + d) := Lib.hid (if_pos hf)
        have HS := Lib.hid (upto2_set HNL.out HSL.out (k := j) (y := x + d) (by rw [List.getElem?_map, HX.out]; rfl))
        have HN := Lib.hid (sums_next HF.out HX.out hf)
        go_wp2_with (go_at_call 130; (with_reducible refine (Wid.plus_any x d _ hxb.1 hxb.2 d0 d1).mono ?_); rintro e5 w5 ⟨rfl, hb5⟩; rw [hf, HV.out]; have fz5 := (HMI.out.up hb5).frozen (0 + j); rw [← Ord.add_at, hgad] at fz5; have e1 := cell_up c1 hb5; have HB5 := Lib.hid hb5; clear hb5)
        go_roundw
        case rel =>
          have hm6 := (HMI.out.up HB5.out).set j (x + d)
          have hk6 : Kept (fun q => q = g) w1 (w5.setCell ⟨g, 0 + j, none⟩ (.int .i64 (x + d))) := (HK.out.then HB5.out).set (.inl rfl) _ _
          rw [HS.out, ← Ord.add_at, hgad] at hm6
          rw [← Ord.add_at, hgad] at hk6
          exact ⟨j + 1, by omega, by go_num, hm6, hk6, HN.out⟩
        case measure => simp [intOf]; omega
    · have e : j = N := by omega
      subst e
      have hf : chFits L cols d = true := sums_all HF.out (by rw [HNL.out]; exact Nat.le_refl _)
      have HO := Lib.hid (ch_yes HM.out hf)
      have HCF := Lib.hid hf
      have hmE := HMI.out
      rw [upto2_end HNL.out HSL.out] at hmE
      have HME := Lib.hid hmE
      clear hmE hf
      obtain ⟨wo, hwo⟩ : ∃ wo, wo = wr := ⟨_, rfl⟩
      subst wr
      have hbb := ((HK.out.low HB1.out HB1.out.size (fun q hq => by have := HG1.out; omega)))
      have HBB := Lib.hid hbb
      have HPo := Lib.hid (pg_up HP.out hbb)
      have HCo := Lib.hid (HC.out.up hbb)
      have HFg : Hid (∀ k, F k → ¬ k = g) := Lib.hid (fun k hk => by have := (pgT p F m n L).lt w HP.out k hk; have := HG1.out; omega)
      have HFl : Hid (∀ k, F k → k < wo.heap.size) := Lib.hid (fun k hk => by have := (pgT p F m n L).lt w HP.out k hk; have := hbb.size; omega)
      have HAl : Hid (∀ b, some a = some b → b.block < wo.heap.size) := Lib.hid (fun b hb => by
        have h2 := HAP.out b hb
        injection hb with hb
        subst hb
        have h1 := cell_lt (HCo.out.at (List.getElem?_eq_getElem (by have := HM.out.1; have := HM.out.2.1; omega : 0 < cols.length)))
        have e2 : (a.add 0).block = a.block := by unfold Addr.add; split <;> rfl
        rwa [e2] at h1)
      have HGl := Lib.hid HME.out.lt
      clear hbb
      go_wp2
      go_loopw [46] (fun i wr => ∃ (k : Nat) (F' : Nat → Prop), k ≤ j ∧ i = .int .i64 k ∧ PG wr p F' m n (upto2 L (changed L cols d) k) ∧ Kept F wo wr ∧ (∀ q, F' q → F q ∨ wo.heap.size ≤ q)) (fun i _ => j - (intOf i).toNat)
      case atStart => exact ⟨0, F, Nat.zero_le _, rfl, by rw [upto2_start]; exact HPo.out, Kept.refl _ _, fun q hq => .inl hq⟩
      case round =>
        obtain ⟨k, F', hk, rfl, hp, hkept, hF⟩ := hrel
        have HPk := Lib.hid hp
        have HKk := Lib.hid hkept
        have HFk := Lib.hid hF
        clear hp hkept hF
        by_cases hlt2 : k < j
        · obtain ⟨v, hv⟩ : ∃ v, cols[k]? = some v := ⟨_, List.getElem?_eq_getElem (by rw [HL.out]; exact hlt2)⟩
          have hvb := HZ.out.at hv
          have hx := named_at HD.out HM.out hv
          have c1 := (HCo.out.keep HKk.out HAP.out).at hv
          have c2 := (HME.out.keep HKk.out (fun h => HFg.out g h rfl)).rd.at (k := .i64) (j := k) (v := at2 L k v + d) (by rw [List.getElem?_map, hx]; rfl)
          rw [hgad] at c2
          have hfx : Wid.fit64 (at2 L k v + d) = true := (List.all_eq_true.1 HCF.out) _ (List.mem_of_getElem? hx)
          have hfb := of_decide_eq_true hfx
          have HPA := Lib.hid (put_at HD.out HM.out d hv HPk.out.dims)
          obtain ⟨s, hs⟩ : ∃ s, s = at2 L k v + d := ⟨_, rfl⟩
          rw [← hs] at c2 hfb HPA
          clear hv hx hfx hs
          go_wp2_with (go_at_call 127; (with_reducible refine (put_any p F' m n _ k v s _ HPk.out (by omega) (by omega) hvb.1 hvb.2 hfb.1 (by omega)).mono ?_); rintro e5 w5 ⟨rfl, F5, hp5, hk5, hf5⟩; have HP5 := Lib.hid hp5; have HK5 := Lib.hid hk5; have HF5 := Lib.hid hf5; clear hp5 hk5 hf5)
          go_roundw
          case rel => exact ⟨k + 1, F5, by omega, by go_num, HPA.out ▸ HP5.out, HKk.out.trans HK5.out (fun q hq h => (HFk.out q h).elim id (fun h2 => by omega)), fun q hq => (HF5.out q hq).elim (fun h => HFk.out q h) (fun h => .inr (by have := HKk.out.size; omega))⟩
          case measure => simp [intOf]; omega
        · have e : k = j := by omega
          subst e
          have hpe := HPk.out
          rw [upto2_end (n := k) (by rw [HD.out.len, ← HM.out.2.1]; exact HL.out) (by rw [changed_len d (by rw [HD.out.len]; exact HM.out.2.1), HD.out.len, ← HM.out.2.1]; exact HL.out)] at hpe
          have HPE := Lib.hid hpe
          clear hpe
          go_wp2
          go_ret
          exact ⟨ret_i HO.out.1.symm, F', HO.out.2.symm ▸ HPE.out, (Kept.of_below HBB.out).trans HKk.out (fun q hq h => h), fun q hq => (HFk.out q hq).elim .inl (fun h => .inr (by have := HBB.out.size; omega))⟩
theorem change_any (p : Addr) (F : Nat → Prop) (m n : Nat) (L : List (List Int)) (A : Option Addr) (N cap : Nat) (cols : List Int) (d : Int) (w : World) (h : PG w p F m n L) (hc : Rd .i64 w A cols) (hap : ∀ a, A = some a → ¬ F a.block) (hl : cols.length = N) (hN : N ≤ 1000) (hz : In64 cols) (d0 : -9223372036854775808 ≤ d) (d1 : d ≤ 9223372036854775807) :
    Calls Tryz.prog 148 #[.pointer (some p), .slice A N cap, .int .i64 d] w fun e w' => e = .returned (.int .i64 (chCode m n L cols d)) ∧ ∃ F', PG w' p F' m n (chRes m n L cols d) ∧ Kept F w w' ∧ (∀ k, F' k → F k ∨ w.heap.size ≤ k) := by
  by_cases hm : Meets m n cols
  · exact change_yes p F m n L A N cap cols d w h hc hap hl hN hz d0 d1 hm
  · rw [(ch_no hm).1, (ch_no hm).2]
    refine (change_no p F m n L A N cap cols d w h hc hl hN hz hm).mono ?_
    rintro e w' ⟨rfl, rfl⟩
    exact ⟨rfl, F, h, Kept.refl _ _, fun k hk => .inl hk⟩
end Go.Proofs.YtiblpdjehknbcaaGreat.Lin
/- The walks of the document's own answers for layer 8. Printed by wip/gen/lin.py. -/
namespace Go.Proofs.YtiblpdjehknbcaaGreat.Lin
open Go Go.RowKit Lw Grd
set_option linter.unusedVariables false
set_option linter.unusedSimpArgs false
set_option maxRecDepth 100000 in
set_option maxHeartbeats 2000000 in
theorem rmeet_any (q : Addr) (F : Nat → Prop) (m n : Nat) (L : List (List Int)) (A : Option Addr) (N cap : Nat) (cols : List Int) (w : World) (h : DG w q F m n L) (hc : Rd .i64 w A cols) (hl : cols.length = N) (hN : N ≤ 1000) (hz : In64 cols) :
    Calls Tryz.prog 83 #[.pointer (some q), .slice A N cap] w fun e w' => e = .returned (.bool (meetB m n cols)) ∧ Below w.heap.size w w' := by
  obtain ⟨b, hdr, R, rfl, hg, rfl, hG, hd⟩ := h
  have hRm : R.length = m := by rw [← nums_len]; exact hd.len
  have hm8 := hd.m8
  have hn128 := hd.n128
  obtain ⟨Ah, caph, rfl, hcaph, hAh, hcell⟩ := hg.hd
  have hb : w.cell? ⟨b, 0, none⟩ = some (.slice Ah R.length caph) := cell_of_row w b 0 _ _ _ hg.cell
  have HC := Lib.hid hc
  have HL := Lib.hid hl
  have HZ := Lib.hid hz
  have HCE := Lib.hid hcell
  have HD := Lib.hid hd
  have HR := Lib.hid hRm
  rw [hRm] at hb
  clear hc hz hcell hAh hg hG hcaph
  by_cases h0 : m = 0
  · have hr : meetB m n cols = false := decide_eq_false (fun h => by have := h.1; omega)
    subst h0
    clear hd hRm hl
    go_enter Tryz.func83, Tryz.ntmps83
    go_wp2
    go_ret
    exact ⟨ret_b hr.symm, Below.refl _ _⟩
  · have hm0 : ((m : Int) == 0) = false := by simp; omega
    by_cases h1 : N = m
    · subst h1
      have HR2 := HR
      clear hd hRm hl
      go_enter Tryz.func83, Tryz.ntmps83
      go_wp2
      go_loopw [5] (fun i wr => ∃ k d : Nat, k ≤ N ∧ i = .int .i64 k ∧ (∀ v ∈ cols.take k, 0 ≤ v ∧ v < n) ∧ wr = w.drewN d) (fun i _ => N - (intOf i).toNat)
      case atStart => exact ⟨0, 0, Nat.zero_le _, rfl, fun v hv => by simp at hv, rfl⟩
      case round =>
        obtain ⟨k, d, hk, rfl, hall, rfl⟩ := hrel
        have HA := Lib.hid hall
        clear hall
        by_cases hlt : k < N
        · have hkl : k < cols.length := by have := HL.out; omega
          obtain ⟨v, hv⟩ : ∃ v, cols[k]? = some v := ⟨_, List.getElem?_eq_getElem hkl⟩
          obtain ⟨r, hr⟩ : ∃ r, R[k]? = some r := ⟨_, List.getElem?_eq_getElem (by have := HR.out; omega)⟩
          obtain ⟨ad, rfl, hcv⟩ := HC.out k v hv
          obtain ⟨ah, rfl, hcr⟩ := HCE.out k r hr
          have hrl : r.2.2.length = n := (HD.out.rows _ (nums_mem (List.mem_of_getElem? hr))).1
          have hvz := HZ.out.at hv
          have HNO : ∀ (_ : v < 0 ∨ (n : Int) ≤ v), meetB N n cols = false := fun h => decide_eq_false (fun hm => by have := hm.2.2 v (List.mem_of_getElem? hv); omega)
          have HNX : Hid (∀ u ∈ cols.take (k + 1), (0 ≤ v ∧ v < n) → 0 ≤ u ∧ u < n) := Lib.hid (fun u hu hb => by
            rw [Ord.take_next cols k v hv] at hu
            rcases List.mem_append.1 hu with h | h
            · exact HA.out u h
            · simp at h; subst h; exact hb)
          obtain ⟨gr, gc, zs⟩ := r
          unfold rowHd at hcr
          simp only at hcr hrl
          rw [hrl] at hcr
          have HNO := Lib.hid HNO
          clear hv hr hrl
          by_cases c1 : v < 0
          · have HF := Lib.hid (HNO.out (.inl c1))
            go_wp2
            go_quiet (fail)
            go_wp2
            go_ret
            exact ⟨ret_b HF.out.symm, by (repeat' (first | (with_reducible exact Below.refl _ _) | (with_reducible assumption) | (with_reducible refine below_over ?_ _ _) | (with_reducible refine Lw.below_alloc ?_ _) | (with_reducible refine Below.drew ?_) | (with_reducible refine below_drewN ?_ _) | (with_reducible refine Below.setCell ?_ ?_ _) | go_size))⟩
          · by_cases c2 : (n : Int) ≤ v
            · have HF := Lib.hid (HNO.out (.inr c2))
              go_wp2
              go_quiet (fail)
              go_wp2
              go_ret
              exact ⟨ret_b HF.out.symm, by (repeat' (first | (with_reducible exact Below.refl _ _) | (with_reducible assumption) | (with_reducible refine below_over ?_ _ _) | (with_reducible refine Lw.below_alloc ?_ _) | (with_reducible refine Below.drew ?_) | (with_reducible refine below_drewN ?_ _) | (with_reducible refine Below.setCell ?_ ?_ _) | go_size))⟩
            · go_wp2
              go_quiet (fail)
              go_wp2
              go_roundw
              case rel => exact ⟨k + 1, _, by omega, by go_num, fun u hu => HNX.out u hu ⟨by omega, by omega⟩, rfl⟩
              case measure => simp [intOf]; omega
        · have e : k = N := by omega
          subst e
          have HT : Hid (meetB k n cols = true) := Lib.hid (decide_eq_true ⟨by omega, HL.out, fun v hv => HA.out v (by rw [List.take_of_length_le (by have := HL.out; omega)]; exact hv)⟩)
          go_wp2
          go_ret
          exact ⟨ret_b HT.out.symm, by (repeat' (first | (with_reducible exact Below.refl _ _) | (with_reducible assumption) | (with_reducible refine below_over ?_ _ _) | (with_reducible refine Lw.below_alloc ?_ _) | (with_reducible refine Below.drew ?_) | (with_reducible refine below_drewN ?_ _) | (with_reducible refine Below.setCell ?_ ?_ _) | go_size))⟩
    · have hr : meetB m n cols = false := decide_eq_false (fun h => h1 (by rw [← h.2.1]; exact hl.symm))
      have hne : ((N : Int) == m) = false := by simp; omega
      have hne2 : ((N : Int) != m) = true := by simp; omega
      clear hd hRm hl
      go_enter Tryz.func83, Tryz.ntmps83
      go_wp2
      go_ret
      exact ⟨ret_b hr.symm, Below.refl _ _⟩
theorem ret_ri {A : Option Addr} {n c : Nat} {x y : Int} (h : x = y) : Ending.returned (.tuple #[.slice A n c, .int .i64 x]) = .returned (.tuple #[.slice A n c, .int .i64 y]) := by rw [h]
theorem dg_up {w w' : World} {q : Addr} {F : Nat → Prop} {m n : Nat} {L : List (List Int)} (h : DG w q F m n L) (hb : Below w.heap.size w w') : DG w' q F m n L := (dgT q F m n L).keep w w' (fun _ => False) h (Kept.of_below hb) (fun _ _ h => h)
theorem own_up {w w' : World} {B : Nat} {e : TypeId} {v : Value} {n : Nat} {xs : List Value} (h : w.ownsRow B e 1 v n xs) (hb : Below w.heap.size w w') : w'.ownsRow B e 1 v n xs := (Kept.of_below (F := fun _ => False) hb).own h (fun _ _ h => h)
set_option maxRecDepth 100000 in
set_option maxHeartbeats 4000000 in
theorem rread_any (q : Addr) (F : Nat → Prop) (m n : Nat) (L : List (List Int)) (A : Option Addr) (N cap : Nat) (cols : List Int) (w : World) (h : DG w q F m n L) (hc : Rd .i64 w A cols) (hl : cols.length = N) (hN : N ≤ 1000) (hz : In64 cols) :
    Calls Tryz.prog 91 #[.pointer (some q), .slice A N cap] w fun e w' => ∃ (A2 : Addr) (len cap2 : Nat), e = .returned (.tuple #[.slice (some A2) len cap2, .int .i64 (rdCode m n cols)]) ∧ Rd .i64 w' (some A2) (readOf m n L cols) ∧ (readOf m n L cols).length = len ∧ len ≤ cap2 ∧ cap2 ≤ maxLen ∧ Below w.heap.size w w' := by
  obtain ⟨i0, hi, hz0, hz1, hz2⟩ := info_parts i64_info
  have HH := Lib.hid h
  have hm8 := h.dims.m8
  have hn128 := h.dims.n128
  have HC := Lib.hid hc
  have HL := Lib.hid hl
  have HZ := Lib.hid hz
  by_cases hme : Meets m n cols
  · have e1 : meetB m n cols = true := decide_eq_true hme
    have hNm : N = m := by rw [← hl]; exact hme.2.1
    subst hNm
    have HME := Lib.hid hme
    have HCD : Hid (rdCode N n cols = 0) := Lib.hid (if_pos hme)
    have HRE : Hid (readOf N n L cols = named L cols) := Lib.hid (if_pos hme)
    obtain ⟨b, hdr, R, rfl, hg, rfl, hG, hd⟩ := h
    have hRm : R.length = N := by rw [← nums_len]; exact hd.len
    have HD := Lib.hid hd
    have HR := Lib.hid hRm
    obtain ⟨Ah, caph, rfl, hcaph, hAh, hcell⟩ := hg.hd
    have hb := cell_of_row w b 0 _ _ _ hg.cell
    simp only [List.getElem?_toArray, List.getElem?_cons_zero] at hb
    rw [hRm] at hb
    have HBH := Lib.hid hb
    have HCE := Lib.hid hcell
    have HG := Lib.hid hg
    clear hc hz hcell hAh hg hG hcaph hme hd hRm hl hb
    go_enter Tryz.func91, Tryz.ntmps91
    go_wp2_with (go_at_call 83; (with_reducible refine (rmeet_any _ F N n (nums R) A N cap cols _ (dg_up HH.out (by repeat' (first | (with_reducible exact Below.refl _ _) | (with_reducible assumption) | (with_reducible refine below_over ?_ _ _) | (with_reducible refine Lw.below_alloc ?_ _) | (with_reducible refine Below.drew ?_) | (with_reducible refine below_drewN ?_ _) | (with_reducible refine Below.setCell ?_ ?_ _) | go_size))) (HC.out.up (by repeat' (first | (with_reducible exact Below.refl _ _) | (with_reducible assumption) | (with_reducible refine below_over ?_ _ _) | (with_reducible refine Lw.below_alloc ?_ _) | (with_reducible refine Below.drew ?_) | (with_reducible refine below_drewN ?_ _) | (with_reducible refine Below.setCell ?_ ?_ _) | go_size))) HL.out hN HZ.out).mono ?_); rintro e w2 ⟨rfl, hb2⟩; have HBW : Hid (Below w.heap.size w w2) := Lib.hid (below_call (by repeat' (first | (with_reducible exact Below.refl _ _) | (with_reducible assumption) | (with_reducible refine below_over ?_ _ _) | (with_reducible refine Lw.below_alloc ?_ _) | (with_reducible refine Below.drew ?_) | (with_reducible refine below_drewN ?_ _) | (with_reducible refine Below.setCell ?_ ?_ _) | go_size)) hb2 (Nat.le_refl _)); have HOW2 : Hid (w2.ownsRow w.heap.size 2 1 (.slice (some ⟨w.heap.size, 0, none⟩) 0 0) 0 (([] : List Int).map (Value.int .i64))) := Lib.hid (own_up (own_empty w _ 1 _ (Nat.le_refl _)) hb2); clear hb2)
    go_loopw [6, 7] (fun v i wr => ∃ (k : Nat) (A1 : Addr) (cp : Nat), k ≤ N ∧ i = .int .i64 k ∧ v = .slice (some A1) k cp ∧ wr.ownsRow w.heap.size 2 1 v k ((named ((nums R).take k) (cols.take k)).map (Value.int .i64)) ∧ Below w.heap.size w wr) (fun _ i _ => N - (intOf i).toNat)
    case atStart => exact ⟨0, ⟨w.heap.size, 0, none⟩, 0, Nat.zero_le _, rfl, rfl, HOW2.out, HBW.out⟩
    case round =>
      obtain ⟨k, A1, cp, hk, rfl, rfl, hown, hbel⟩ := hrel
      have HOW := Lib.hid hown
      have HBL := Lib.hid hbel
      by_cases hlt : k < N
      · obtain ⟨v, hv⟩ : ∃ v, cols[k]? = some v := ⟨_, List.getElem?_eq_getElem (by have := HL.out; omega)⟩
        obtain ⟨r, hr⟩ : ∃ r, R[k]? = some r := ⟨_, List.getElem?_eq_getElem (by have := HR.out; omega)⟩
        obtain ⟨ad, rfl, hcv⟩ := HC.out k v hv
        obtain ⟨ah, rfl, hcr⟩ := HCE.out k r hr
        have hrl : r.2.2.length = n := (HD.out.rows _ (nums_mem (List.mem_of_getElem? hr))).1
        have hrz := (HD.out.rows _ (nums_mem (List.mem_of_getElem? hr))).2
        have hvb := HME.out.2.2 v (List.mem_of_getElem? hv)
        obtain ⟨vn, rfl⟩ : ∃ vn : Nat, v = vn := ⟨v.toNat, by omega⟩
        obtain ⟨x, hx⟩ : ∃ x, r.2.2[vn]? = some x := ⟨_, List.getElem?_eq_getElem (by omega)⟩
        have hcx := HG.out.numAt (List.mem_of_getElem? hr) hx
        have hxb := hrz.at hx
        have HNX := Lib.hid (named_next (nums R) cols k r.2.2 vn (by unfold nums; rw [List.getElem?_map, hr]; rfl) hv)
        have hget : r.2.2[(vn : Int).toNat]?.getD 0 = x := by rw [show (vn : Int).toNat = vn from rfl, hx]; rfl
        rw [hget] at HNX
        obtain ⟨gr, gc, zs⟩ := r
        unfold rowHd at hcr
        simp only at hcr hrl hcx
        rw [hrl] at hcr
        obtain ⟨gad, hgad⟩ : ∃ gad : Addr, (⟨gr, 0, none⟩ : Addr) = gad := ⟨_, rfl⟩
        rw [hgad] at hcr hcx
        clear hv hr hx hrl hrz hget hgad hown hbel
        have hbs := HBL.out.size
        go_wp2
        go_region_held3 (fun w' => w'.cell? ⟨b, 0, none⟩ = some (.slice (some ah) N caph) ∧ w'.cell? (ah.add k) = some (.slice (some gad) n gc) ∧ w'.cell? (ad.add k) = some (.int .i64 vn) ∧ w'.cell? (gad.add vn) = some (.int .i64 x)) (refine ⟨cell_up HBH.out ?_, cell_up hcr ?_, cell_up hcv ?_, cell_up hcx ?_⟩ <;> (repeat' (first | (with_reducible exact Below.refl _ _) | (with_reducible assumption) | (with_reducible exact HBL.out) | (with_reducible refine below_over ?_ _ _) | (with_reducible refine Lw.below_alloc ?_ _) | (with_reducible refine Below.drew ?_) | (with_reducible refine below_drewN ?_ _) | (with_reducible refine Below.setCell ?_ ?_ _) | go_size))) (first
          | (refine app_step .i64 rfl _ _ 48 rfl w.heap.size 2 i0 8 i64s_u hi hz0 hz1 hz2 (.slice (some A1) k cp) k (named ((nums R).take k) (cols.take k)) rfl (own_up HOW.out (by repeat' (first | (with_reducible exact Below.refl _ _) | (with_reducible assumption) | (with_reducible refine below_over ?_ _ _) | (with_reducible refine Lw.below_alloc ?_ _) | (with_reducible refine Below.drew ?_) | (with_reducible refine below_drewN ?_ _) | (with_reducible refine Below.setCell ?_ ?_ _) | go_size))) (fun h => by cases h) _ 1 1 [x] rfl (by simp) rfl (rd_one (by simp [go_sem])) (by unfold maxLen; omega) (by omega) (by simp <;> omega) ?_; intro A8 cap8 w8 own8 grow8 rd8 c8 d8; have hb8 := app_below3 (w := w) (by repeat' (first | (with_reducible exact Below.refl _ _) | (with_reducible assumption) | (with_reducible exact HBL.out) | (with_reducible refine below_over ?_ _ _) | (with_reducible refine Lw.below_alloc ?_ _) | (with_reducible refine Below.drew ?_) | (with_reducible refine below_drewN ?_ _) | (with_reducible refine Below.setCell ?_ ?_ _) | go_size)) grow8 (fun q hq => own_ge HOW.out q hq)))
        all_goals go_wp2
        all_goals go_roundw
        all_goals first
          | exact ⟨k + 1, A8, cap8, by omega, by go_num, rfl, by rw [HNX.out]; exact own8, hb8⟩
          | (simp [intOf]; omega)
      · have e : k = N := by omega
        subst e
        have hfull : named ((nums R).take k) (cols.take k) = named (nums R) cols := by
          rw [List.take_of_length_le (by rw [HD.out.len]; exact Nat.le_refl _), List.take_of_length_le (by rw [HL.out]; exact Nat.le_refl _)]
        rw [hfull] at hown
        obtain ⟨A3, cp3, hv3, hrd3, h2, h3, h4⟩ := own_rd hown
        injection hv3 with hv1 hv2 hv3
        subst hv1 hv3
        have HRD := Lib.hid hrd3
        have HLN : Hid ((named (nums R) cols).length = k) := Lib.hid (by rw [named_len (by rw [HL.out, HD.out.len]), HD.out.len])
        clear hfull hown hrd3 h4 hbel
        go_wp2
        go_ret2
        exact ⟨A1, k, cp, ret_ri HCD.out.symm, by rw [HRE.out]; exact HRD.out, by rw [HRE.out]; exact HLN.out, h2, h3, HBL.out⟩
  · have e1 : meetB m n cols = false := decide_eq_false hme
    have HCD : Hid (rdCode m n cols = 1) := Lib.hid (if_neg hme)
    have HRE : Hid (readOf m n L cols = []) := Lib.hid (if_neg hme)
    clear h hc hl hz hme
    go_enter Tryz.func91, Tryz.ntmps91
    go_wp2_with (go_at_call 83; (with_reducible refine (rmeet_any q F m n L A N cap cols _ (dg_up HH.out (by repeat' (first | (with_reducible exact Below.refl _ _) | (with_reducible assumption) | (with_reducible refine below_over ?_ _ _) | (with_reducible refine Lw.below_alloc ?_ _) | (with_reducible refine Below.drew ?_) | (with_reducible refine below_drewN ?_ _) | (with_reducible refine Below.setCell ?_ ?_ _) | go_size))) (HC.out.up (by repeat' (first | (with_reducible exact Below.refl _ _) | (with_reducible assumption) | (with_reducible refine below_over ?_ _ _) | (with_reducible refine Lw.below_alloc ?_ _) | (with_reducible refine Below.drew ?_) | (with_reducible refine below_drewN ?_ _) | (with_reducible refine Below.setCell ?_ ?_ _) | go_size))) HL.out hN HZ.out).mono ?_); rintro e w2 ⟨rfl, hb2⟩; have HBW : Hid (Below w.heap.size w w2) := Lib.hid (below_call (by repeat' (first | (with_reducible exact Below.refl _ _) | (with_reducible assumption) | (with_reducible refine below_over ?_ _ _) | (with_reducible refine Lw.below_alloc ?_ _) | (with_reducible refine Below.drew ?_) | (with_reducible refine below_drewN ?_ _) | (with_reducible refine Below.setCell ?_ ?_ _) | go_size)) hb2 (Nat.le_refl _)); clear hb2)
    all_goals go_ret2
    all_goals exact ⟨⟨w.heap.size, 0, none⟩, 0, 0, ret_ri HCD.out.symm, by rw [HRE.out]; exact rd_nil _ _ _, by rw [HRE.out]; rfl, Nat.le_refl _, by simp, HBW.out⟩
theorem named_mem : ∀ {L : List (List Int)} {cols : List Int}, (∀ r ∈ L, In64 r) → In64 (named L cols)
  | [], _, _ => fun v hv => by simp [named] at hv
  | _ :: _, [], _ => fun v hv => by simp [named] at hv
  | r :: L, c :: cols, h => fun v hv => by
    unfold named at hv
    rw [List.zipWith_cons_cons] at hv
    rcases List.mem_cons.1 hv with h1 | h1
    · subst h1
      cases hx : r[c.toNat]? with
      | none => simp
      | some x => simpa using (h r (by simp)).at hx
    · exact named_mem (L := L) (cols := cols) (fun r hr => h r (by simp [hr])) v h1
theorem read_ok {m n : Nat} {L : List (List Int)} {cols : List Int} (h : Dims m n L) : In64 (readOf m n L cols) ∧ (readOf m n L cols).length ≤ 1000 := by
  unfold readOf
  split
  · refine ⟨named_mem (fun r hr => (h.rows r hr).2), ?_⟩
    unfold named
    rw [List.length_zipWith, h.len]
    have := h.m8
    omega
  · exact ⟨in64_nil, by simp⟩
set_option maxRecDepth 100000 in
theorem rleast_any (q : Addr) (F : Nat → Prop) (m n : Nat) (L : List (List Int)) (A : Option Addr) (N cap : Nat) (cols : List Int) (w : World) (h : DG w q F m n L) (hc : Rd .i64 w A cols) (hl : cols.length = N) (hN : N ≤ 1000) (hz : In64 cols) :
    Calls Tryz.prog 82 #[.pointer (some q), .slice A N cap] w fun e w' => e = .returned (.tuple #[.int .i64 (Ord.kv (readOf m n L cols) (0)), .int .i64 (rdCode m n cols)]) ∧ Below w.heap.size w w' := by
  have HH := Lib.hid h
  have HC := Lib.hid hc
  have HL := Lib.hid hl
  have HZ := Lib.hid hz
  have hin : Hid (In64 (readOf m n L cols) ∧ (readOf m n L cols).length ≤ 1000) := Lib.hid (read_ok h.dims)
  clear h hc hl hz
  go_enter Tryz.func82, Tryz.ntmps82
  go_wp2_with (first
    | (go_at_call 91; (with_reducible refine (rread_any q F m n L A N cap cols _ HH.out HC.out HL.out hN HZ.out).mono ?_); rintro e w2 ⟨A2, len, cap2, rfl, hrd, hlen, hc2, hm2, hb2⟩; have HRD := Lib.hid hrd; have HLE := Lib.hid hlen; have hle : len ≤ 1000 := (by rw [← hlen]; exact hin.out.2); have HB2 := Lib.hid hb2; clear hrd hlen hb2)
    | (go_at_call 92; (with_reducible refine (Ord.rmin_any (some A2) len cap2 (readOf m n L cols) _ (by simp) hc2 hm2 (HRD.out.up (by repeat' (first | (with_reducible exact Below.refl _ _) | (with_reducible assumption) | (with_reducible refine below_over ?_ _ _) | (with_reducible refine Lw.below_alloc ?_ _) | (with_reducible refine Below.drew ?_) | (with_reducible refine below_drewN ?_ _) | (with_reducible refine Below.setCell ?_ ?_ _) | go_size))) HLE.out hle hin.out.1).mono ?_); rintro e w3 ⟨rfl, hb3⟩; have HB3 := Lib.hid (below_call HB2.out hb3 (Nat.le_refl _)); clear hb3))
  all_goals go_ret2
  all_goals exact ⟨rfl, HB3.out⟩
set_option maxRecDepth 100000 in
theorem rmiddle_any (q : Addr) (F : Nat → Prop) (m n : Nat) (L : List (List Int)) (A : Option Addr) (N cap : Nat) (cols : List Int) (w : World) (h : DG w q F m n L) (hc : Rd .i64 w A cols) (hl : cols.length = N) (hN : N ≤ 1000) (hz : In64 cols) :
    Calls Tryz.prog 88 #[.pointer (some q), .slice A N cap] w fun e w' => e = .returned (.tuple #[.int .i64 (Ord.kv (readOf m n L cols) ((((readOf m n L cols).length : Int) - 1) / 2)), .int .i64 (rdCode m n cols)]) ∧ Below w.heap.size w w' := by
  have HH := Lib.hid h
  have HC := Lib.hid hc
  have HL := Lib.hid hl
  have HZ := Lib.hid hz
  have hin : Hid (In64 (readOf m n L cols) ∧ (readOf m n L cols).length ≤ 1000) := Lib.hid (read_ok h.dims)
  clear h hc hl hz
  go_enter Tryz.func88, Tryz.ntmps88
  go_wp2_with (first
    | (go_at_call 91; (with_reducible refine (rread_any q F m n L A N cap cols _ HH.out HC.out HL.out hN HZ.out).mono ?_); rintro e w2 ⟨A2, len, cap2, rfl, hrd, hlen, hc2, hm2, hb2⟩; have HRD := Lib.hid hrd; have HLE := Lib.hid hlen; have hle : len ≤ 1000 := (by rw [← hlen]; exact hin.out.2); have HB2 := Lib.hid hb2; clear hrd hlen hb2)
    | (go_at_call 94; (with_reducible refine (Ord.rmedian_any (some A2) len cap2 (readOf m n L cols) _ (by simp) hc2 hm2 (HRD.out.up (by repeat' (first | (with_reducible exact Below.refl _ _) | (with_reducible assumption) | (with_reducible refine below_over ?_ _ _) | (with_reducible refine Lw.below_alloc ?_ _) | (with_reducible refine Below.drew ?_) | (with_reducible refine below_drewN ?_ _) | (with_reducible refine Below.setCell ?_ ?_ _) | go_size))) HLE.out hle hin.out.1).mono ?_); rintro e w3 ⟨rfl, hb3⟩; have HB3 := Lib.hid (below_call HB2.out hb3 (Nat.le_refl _)); clear hb3))
  all_goals go_ret2
  all_goals exact ⟨rfl, HB3.out⟩
theorem int_info : (Tryz.prog.info? 3).map (fun i => (i.zero, i.size, i.bytes)) = some (some (.int .i64 0), 1, 8) := by kernel_rfl
theorem ints_u : Tryz.prog.underlying 142 = some (.slice 3) := by kernel_rfl
def cutAt (cols : List Int) (v : Nat) (r : Nat) : Int := match cols[r]? with
  | some x => x % 65536 % v
  | none => 0
def cutOf (cols : List Int) (rows v : Nat) : List Int := (List.range rows).map (cutAt cols v)
theorem cut_in (cols : List Int) (rows v : Nat) (hv : 1 ≤ v) : ∀ x ∈ cutOf cols rows v, 0 ≤ x ∧ x < v := by
  intro x hx
  obtain ⟨r, _, rfl⟩ := List.mem_map.1 hx
  unfold cutAt
  split
  · exact ⟨Int.emod_nonneg _ (by omega), Int.emod_lt_of_pos _ (by omega)⟩
  · omega
theorem cut_len (cols : List Int) (rows v : Nat) : (cutOf cols rows v).length = rows := by simp [cutOf]
end Go.Proofs.YtiblpdjehknbcaaGreat.Lin
/- The walk of the document's Change. Printed by wip/gen/lin.py. -/
namespace Go.Proofs.YtiblpdjehknbcaaGreat.Lin
open Go Go.RowKit Lw Grd
set_option linter.unusedVariables false
set_option linter.unusedSimpArgs false
theorem nums_set2 (R : List Row) (K C : Nat) (n : Int) : nums (set2 R K C n) = (nums R).modify K (fun r => r.set C n) := by
  unfold nums set2
  apply List.ext_getElem?
  intro i
  rw [List.getElem?_map, List.getElem?_modify, List.getElem?_modify, List.getElem?_map]
  cases R[i]? <;> simp
  split <;> simp
theorem RF_set2 {b : Nat} {hdr : Value} {R : List Row} {K C : Nat} {n : Int} (k : Nat) : RF b hdr (set2 R K C n) k ↔ RF b hdr R k := by
  have h := set2_bl R K C n
  unfold RF
  have e : ∀ (S : List Row), (∃ r ∈ S, r.1 = k) ↔ k ∈ S.map (·.1) := fun S => by simp [List.mem_map]
  rw [e, e, h]
theorem modify_app {α : Type} (f : α → α) (r : α) (t : List α) : ∀ (a : List α), (a ++ r :: t).modify a.length f = a ++ f r :: t
  | [] => rfl
  | x :: a => by
    have ih := modify_app f r t a
    simp only [List.cons_append, List.length_cons, List.modify_succ_cons, ih]
/-- The first k rows changed. -/
def half (L : List (List Int)) (cols : List Int) (d : Int) (k : Nat) : List (List Int) := changed (L.take k) (cols.take k) d ++ L.drop k
theorem half_zero (L : List (List Int)) (cols : List Int) (d : Int) : half L cols d 0 = L := by simp [half, changed]
theorem half_full {L : List (List Int)} {cols : List Int} (d : Int) (h : cols.length = L.length) : half L cols d L.length = changed L cols d := by
  unfold half
  rw [List.take_of_length_le (Nat.le_refl _), List.take_of_length_le (by omega), List.drop_of_length_le (Nat.le_refl _), List.append_nil]
theorem half_next {L : List (List Int)} {cols : List Int} {d : Int} {k : Nat} {r : List Int} {v : Nat} {x : Int} (h : cols.length = L.length) (hr : L[k]? = some r) (hv : cols[k]? = some (v : Int)) (hx : r[v]? = some x) :
    (half L cols d k).modify k (fun r => r.set v (x + d)) = half L cols d (k + 1) := by
  obtain ⟨h1, e1⟩ := List.getElem?_eq_some_iff.1 hr
  obtain ⟨h2, e2⟩ := List.getElem?_eq_some_iff.1 hv
  have hl : (changed (L.take k) (cols.take k) d).length = k := by unfold changed; rw [List.length_zipWith, List.length_take, List.length_take]; omega
  unfold half
  rw [List.drop_eq_getElem_cons h1, e1]
  have hm := modify_app (fun r => r.set v (x + d)) r (L.drop (k + 1)) (changed (L.take k) (cols.take k) d)
  rw [hl] at hm
  rw [hm]
  have e : changed (L.take (k + 1)) (cols.take (k + 1)) d = changed (L.take k) (cols.take k) d ++ [r.set v (x + d)] := by
    unfold changed
    rw [List.take_succ_eq_append_getElem h1, List.take_succ_eq_append_getElem h2, List.zipWith_append (by simp; omega), e1, e2]
    simp [hx]
  rw [e, List.append_assoc]
  rfl
theorem half_get {L : List (List Int)} {cols : List Int} {d : Int} {k : Nat} {r : List Int} (h : cols.length = L.length) (hr : L[k]? = some r) : (half L cols d k)[k]? = some r := by
  obtain ⟨h1, e1⟩ := List.getElem?_eq_some_iff.1 hr
  have hl : (changed (L.take k) (cols.take k) d).length = k := by unfold changed; rw [List.length_zipWith, List.length_take, List.length_take]; omega
  unfold half
  rw [List.getElem?_append_right (by omega), hl, Nat.sub_self, List.drop_eq_getElem_cons h1, e1]
  rfl
theorem map_named_next (L : List (List Int)) (cols : List Int) (d : Int) (k : Nat) (r : List Int) (v x : Int) (hr : L[k]? = some r) (hv : cols[k]? = some v) (hx : r[v.toNat]?.getD 0 = x) : (named (L.take (k + 1)) (cols.take (k + 1))).map (· + d) = (named (L.take k) (cols.take k)).map (· + d) ++ [x + d] := by
  rw [named_next L cols k r v hr hv, List.map_append, hx]
  rfl
theorem chFits_cons (r : List Int) (L : List (List Int)) (c : Int) (cols : List Int) (d : Int) : chFits (r :: L) (c :: cols) d = (Wid.fit64 (r[c.toNat]?.getD 0 + d) && chFits L cols d) := by
  unfold chFits named
  rw [List.zipWith_cons_cons, List.all_cons]
theorem changed_rows {n : Nat} : ∀ {L : List (List Int)} {cols : List Int} {d : Int}, (∀ r ∈ L, r.length = n ∧ In64 r) → chFits L cols d = true → ∀ r ∈ changed L cols d, r.length = n ∧ In64 r
  | [], _, _, _, _ => fun r hr => by simp [changed] at hr
  | _ :: _, [], _, _, _ => fun r hr => by simp [changed] at hr
  | r0 :: L, c :: cols, d, h, hf => fun r hr => by
    rw [chFits_cons, Bool.and_eq_true] at hf
    unfold changed at hr
    rw [List.zipWith_cons_cons] at hr
    rcases List.mem_cons.1 hr with h1 | h1
    · subst h1
      have h2 := h r0 (by simp)
      have h3 := fit64_in hf.1
      exact ⟨by rw [List.length_set]; exact h2.1, in64_set h2.2 _ h3.1 h3.2⟩
    · exact changed_rows (fun r hr => h r (by simp [hr])) hf.2 r h1
theorem changed_dims {m n : Nat} {L : List (List Int)} {cols : List Int} {d : Int} (h : Dims m n L) (hl : cols.length = m) (hf : chFits L cols d = true) : Dims m n (changed L cols d) :=
  ⟨by unfold changed; rw [List.length_zipWith, h.len, hl]; omega, h.m8, h.n128, changed_rows h.rows hf⟩
theorem named_take : ∀ (L : List (List Int)) (cols : List Int) (k : Nat), named (L.take k) (cols.take k) = (named L cols).take k
  | [], _, k => by simp [named]
  | _ :: _, [], k => by cases k <;> simp [named]
  | r :: L, c :: cols, 0 => by simp [named]
  | r :: L, c :: cols, k + 1 => by
    have ih := named_take L cols k
    unfold named at ih ⊢
    simp only [List.take_succ_cons, List.zipWith_cons_cons, ih]
set_option maxRecDepth 100000 in
set_option maxHeartbeats 8000000 in
theorem rchange_any (q : Addr) (F : Nat → Prop) (m n : Nat) (L : List (List Int)) (A : Option Addr) (N cap : Nat) (cols : List Int) (d : Int) (w : World) (h : DG w q F m n L) (hc : Rd .i64 w A cols) (hap : ∀ a, A = some a → ¬ F a.block) (hl : cols.length = N) (hN : N ≤ 1000) (hz : In64 cols) (d0 : -9223372036854775808 ≤ d) (d1 : d ≤ 9223372036854775807) :
    Calls Tryz.prog 74 #[.pointer (some q), .slice A N cap, .int .i64 d] w fun e w' => e = .returned (.int .i64 (chCode m n L cols d)) ∧ ∃ G', DG w' q G' m n (chRes m n L cols d) ∧ Kept F w w' ∧ (∀ k, G' k → F k ∨ w.heap.size ≤ k) := by
  obtain ⟨i0, hi, hz0, hz1, hz2⟩ := info_parts i64_info
  have HH := Lib.hid h
  have hm8 := h.dims.m8
  have hn128 := h.dims.n128
  have HC := Lib.hid hc
  have HL := Lib.hid hl
  have HZ := Lib.hid hz
  have HAP := Lib.hid hap
  by_cases hme : Meets m n cols
  · have e1 : meetB m n cols = true := decide_eq_true hme
    have hNm : N = m := by rw [← hl]; exact hme.2.1
    subst hNm
    have HME := Lib.hid hme
    have HCD : Hid (chCode N n L cols d = if chFits L cols d = true then 0 else 4) := Lib.hid (if_pos hme)
    have HCR : Hid (chRes N n L cols d = if chFits L cols d = true then changed L cols d else L) := Lib.hid (by unfold chRes; by_cases hf : chFits L cols d = true <;> simp [hme, hf])
    obtain ⟨b, hdr, R, rfl, hg, rfl, hG, hd⟩ := h
    have hRm : R.length = N := by rw [← nums_len]; exact hd.len
    have HD := Lib.hid hd
    have HR := Lib.hid hRm
    have HGF := Lib.hid hG
    obtain ⟨Ah, caph, rfl, hcaph, hAh, hcell⟩ := hg.hd
    have hb := cell_of_row w b 0 _ _ _ hg.cell
    simp only [List.getElem?_toArray, List.getElem?_cons_zero] at hb
    rw [hRm] at hb
    have HBH := Lib.hid hb
    have HCE := Lib.hid hcell
    have HG := Lib.hid hg
    clear hc hz hcell hAh hg hG hcaph hme hd hl hb hap
    go_enter Tryz.func74, Tryz.ntmps74
    go_wp2_with (go_at_call 83; (with_reducible refine (rmeet_any _ F N n (nums R) A N cap cols _ (dg_up HH.out (by repeat' (first | (with_reducible exact Below.refl _ _) | (with_reducible assumption) | (with_reducible refine below_over ?_ _ _) | (with_reducible refine Lw.below_alloc ?_ _) | (with_reducible refine Below.drew ?_) | (with_reducible refine below_drewN ?_ _) | (with_reducible refine Below.setCell ?_ ?_ _) | go_size))) (HC.out.up (by repeat' (first | (with_reducible exact Below.refl _ _) | (with_reducible assumption) | (with_reducible refine below_over ?_ _ _) | (with_reducible refine Lw.below_alloc ?_ _) | (with_reducible refine Below.drew ?_) | (with_reducible refine below_drewN ?_ _) | (with_reducible refine Below.setCell ?_ ?_ _) | go_size))) HL.out hN HZ.out).mono ?_); rintro e w2 ⟨rfl, hb2⟩; have HBW : Hid (Below w.heap.size w w2) := Lib.hid (below_call (by repeat' (first | (with_reducible exact Below.refl _ _) | (with_reducible assumption) | (with_reducible refine below_over ?_ _ _) | (with_reducible refine Lw.below_alloc ?_ _) | (with_reducible refine Below.drew ?_) | (with_reducible refine below_drewN ?_ _) | (with_reducible refine Below.setCell ?_ ?_ _) | go_size)) hb2 (Nat.le_refl _)); clear hb2)
    go_loopw [7, 8] (fun v i wr => ∃ (k : Nat) (A1 : Addr) (cp : Nat), k ≤ N ∧ i = .int .i64 k ∧ v = .slice (some A1) k cp ∧ wr.ownsRow w.heap.size 2 1 v k (((named ((nums R).take k) (cols.take k)).map (· + d)).map (Value.int .i64)) ∧ ((named ((nums R).take k) (cols.take k)).all (fun x => Wid.fit64 (x + d))) = true ∧ Below w.heap.size w wr) (fun _ i _ => N - (intOf i).toNat)
    case atStart => exact ⟨0, ⟨w2.heap.size, 0, none⟩, 0, Nat.zero_le _, rfl, rfl, by have h0 := own_empty w2 2 1 w.heap.size HBW.out.size; simpa [named] using h0, by simp [named], Lw.below_alloc HBW.out _⟩
    case round =>
      obtain ⟨k, A1, cp, hk, rfl, rfl, hown, hfit, hbel⟩ := hrel
      have HOW := Lib.hid hown
      have HFI := Lib.hid hfit
      have HBL := Lib.hid hbel
      have hbs := hbel.size
      by_cases hlt : k < N
      · obtain ⟨v, hv⟩ : ∃ v, cols[k]? = some v := ⟨_, List.getElem?_eq_getElem (by have := HL.out; omega)⟩
        obtain ⟨r, hr⟩ : ∃ r, R[k]? = some r := ⟨_, List.getElem?_eq_getElem (by have := HR.out; omega)⟩
        obtain ⟨ad, rfl, hcv⟩ := HC.out k v hv
        obtain ⟨ah, rfl, hcr⟩ := HCE.out k r hr
        have hrl : r.2.2.length = n := (HD.out.rows _ (nums_mem (List.mem_of_getElem? hr))).1
        have hrz := (HD.out.rows _ (nums_mem (List.mem_of_getElem? hr))).2
        have hvb := HME.out.2.2 v (List.mem_of_getElem? hv)
        obtain ⟨vn, rfl⟩ : ∃ vn : Nat, v = vn := ⟨v.toNat, by omega⟩
        obtain ⟨x, hx⟩ : ∃ x, r.2.2[vn]? = some x := ⟨_, List.getElem?_eq_getElem (by omega)⟩
        have hcx := HG.out.numAt (List.mem_of_getElem? hr) hx
        have hxb := hrz.at hx
        have hLk : (nums R)[k]? = some r.2.2 := by unfold nums; rw [List.getElem?_map, hr]; rfl
        have hget : r.2.2[(vn : Int).toNat]?.getD 0 = x := by rw [show (vn : Int).toNat = vn from rfl, hx]; rfl
        have HNX := Lib.hid (map_named_next (nums R) cols d k r.2.2 vn x hLk hv hget)
        have HNX2 := Lib.hid (named_next (nums R) cols k r.2.2 vn hLk hv)
        rw [hget] at HNX2
        have HNO : Hid (Wid.fit64 (x + d) = false → chFits (nums R) cols d = false) := Lib.hid (fun hf => by
          refine Bool.eq_false_iff.2 fun hall => ?_
          have hmem : x ∈ named (nums R) cols := by
            have h2 : x ∈ named ((nums R).take (k + 1)) (cols.take (k + 1)) := by rw [HNX2.out]; simp
            have e3 := named_take (nums R) cols (k + 1)
            rw [e3] at h2
            exact List.mem_of_mem_take h2
          have := List.all_eq_true.1 hall x hmem
          rw [hf] at this
          cases this)
        obtain ⟨gr, gc, zs⟩ := r
        unfold rowHd at hcr
        simp only at hcr hrl hcx
        rw [hrl] at hcr
        obtain ⟨gad, hgad⟩ : ∃ gad : Addr, (⟨gr, 0, none⟩ : Addr) = gad := ⟨_, rfl⟩
        rw [hgad] at hcr hcx
        clear hv hr hx hrl hrz hget hgad hLk hown hbel hfit
        go_wp2
        go_region_held3 (fun w' => w'.cell? ⟨b, 0, none⟩ = some (.slice (some ah) N caph) ∧ w'.cell? (ah.add k) = some (.slice (some gad) n gc) ∧ w'.cell? (ad.add k) = some (.int .i64 vn) ∧ w'.cell? (gad.add vn) = some (.int .i64 x)) (refine ⟨cell_up HBH.out ?_, cell_up hcr ?_, cell_up hcv ?_, cell_up hcx ?_⟩ <;> (repeat' (first | (with_reducible exact Below.refl _ _) | (with_reducible assumption) | (with_reducible exact HBL.out) | (with_reducible refine below_over ?_ _ _) | (with_reducible refine Lw.below_alloc ?_ _) | (with_reducible refine Below.drew ?_) | (with_reducible refine below_drewN ?_ _) | (with_reducible refine Below.setCell ?_ ?_ _) | go_size))) (first
          | (go_at_call 71; (with_reducible refine (Wid.radd_any x d _ (by omega) (by omega) d0 d1).mono ?_); rintro e w5 ⟨rfl, hb⟩; have HB5 : Hid (Below wr.heap.size wr w5) := Lib.hid (below_call (by repeat' (first | (with_reducible exact Below.refl _ _) | (with_reducible assumption) | (with_reducible refine below_over ?_ _ _) | (with_reducible refine Lw.below_alloc ?_ _) | (with_reducible refine Below.drew ?_) | (with_reducible refine below_drewN ?_ _) | (with_reducible refine Below.setCell ?_ ?_ _) | go_size)) hb (Nat.le_refl _)); have hb5 : Below w.heap.size w w5 := below_call HBL.out HB5.out (Nat.le_refl _); clear hb))
        cases hf : Wid.fit64 (x + d)
        · have HNF := Lib.hid (HNO.out hf)
          go_wp2
          go_ret
          exact ⟨ret_i (by rw [HCD.out, HNF.out]; rfl), F, by rw [HCR.out, HNF.out]; exact dg_up HH.out hb5, Kept.of_below hb5, fun k h => .inl h⟩
        · have e64 : Wid.f64 (x + d) = x + d := by unfold Wid.f64; rw [if_pos hf]
          have HF5 := Lib.hid hf
          rw [e64]
          clear hf
          go_wp2_with (at_builtin; (refine app_one .i64 rfl _ _ 48 rfl w.heap.size 2 i0 8 i64s_u hi hz0 hz1 hz2 (.slice (some A1) k cp) k ((named ((nums R).take k) (cols.take k)).map (· + d)) rfl ((own_up HOW.out HB5.out).alloc _) (x + d) w5.heap.size rfl (cell_one_new _ _ _) (by unfold maxLen; omega) (by omega) (by have := hb5.size; simp; omega) ?_); intro v1 w6 own1 grow1 oth1; obtain ⟨gg, cc, rfl, hgg, hgl⟩ := own1.form (by omega))
          go_roundw
          case rel => exact ⟨k + 1, ⟨gg, 0, none⟩, cc, by omega, by go_num, rfl, by rw [HNX.out]; exact own1, by rw [HNX2.out, List.all_append, HFI.out]; simp [HF5.out], app_below3 (Lw.below_alloc hb5 _) grow1 (fun q hq => own_ge HOW.out q hq)⟩
          case measure => simp [intOf]; omega
      · have e : k = N := by omega
        subst e
        have hf1 : (nums R).take k = nums R := List.take_of_length_le (by rw [HD.out.len]; exact Nat.le_refl _)
        have hf2 : cols.take k = cols := List.take_of_length_le (by rw [HL.out]; exact Nat.le_refl _)
        rw [hf1, hf2] at hown hfit
        have HFT : Hid (chFits (nums R) cols d = true) := Lib.hid hfit
        obtain ⟨A3, cp3, hv3, hrd3, h2, h3, h4⟩ := own_rd hown
        injection hv3 with hv1 hv2 hv3
        subst hv1 hv3
        have hge := own_ge HOW.out A1.block rfl
        have HRD := Lib.hid hrd3
        have HLT : Hid (∀ x, RF b (.slice Ah R.length caph) R x → x < w.heap.size) := Lib.hid (fun x hx => HG.out.blt hx)
        have HW3 := Lib.hid (HG.out.keep (Kept.of_below (F := fun _ => False) hbel) (fun _ _ h => h))
        have HC3 := Lib.hid (HC.out.up hbel)
        clear hf1 hf2 hown hfit hrd3 h4 hbel
        go_wp2
        obtain ⟨w3, rfl⟩ : ∃ w3, w3 = wr := ⟨_, rfl⟩
        go_loopw [11] (fun i wr => ∃ (j : Nat) (R2 : List Row), j ≤ k ∧ i = .int .i64 j ∧ RG wr b (.slice Ah R.length caph) R2 ∧ R2.length = R.length ∧ (∀ x, RF b (.slice Ah R.length caph) R2 x ↔ RF b (.slice Ah R.length caph) R x) ∧ nums R2 = half (nums R) cols d j ∧ Kept (RF b (.slice Ah R.length caph) R) w3 wr) (fun i _ => k - (intOf i).toNat)
        case atStart => exact ⟨0, R, Nat.zero_le _, rfl, HW3.out, rfl, fun x => Iff.rfl, (half_zero _ _ _).symm, Kept.refl _ _⟩
        case round =>
          obtain ⟨j, R2, hj, rfl, hg2, hlen2, hrf2, hn2, hk2⟩ := hrel
          have HG2 := Lib.hid hg2
          have HRF := Lib.hid hrf2
          have HN2 := Lib.hid hn2
          have HK2 := Lib.hid hk2
          have HLE2 := Lib.hid hlen2
          by_cases hjl : j < k
          · obtain ⟨v, hv⟩ : ∃ v, cols[j]? = some v := ⟨_, List.getElem?_eq_getElem (by have := HL.out; omega)⟩
            obtain ⟨r, hr⟩ : ∃ r, R2[j]? = some r := ⟨_, List.getElem?_eq_getElem (by have := HR.out; omega)⟩
            obtain ⟨z, hzo⟩ : ∃ z, ((named (nums R) cols).map (· + d))[j]? = some z := ⟨_, List.getElem?_eq_getElem (by rw [List.length_map, named_len (by rw [HL.out, HD.out.len]), HD.out.len]; omega)⟩
            have hjR : j < (nums R).length := by rw [HD.out.len]; exact hjl
            obtain ⟨r0, hr0⟩ : ∃ r0, (nums R)[j]? = some r0 := ⟨_, List.getElem?_eq_getElem hjR⟩
            have hcl : cols.length = (nums R).length := by rw [HL.out, HD.out.len]
            have hr2 : r.2.2 = r0 := by
              have e3 := half_get (d := d) hcl hr0
              rw [← hn2] at e3
              unfold nums at e3
              rw [List.getElem?_map, hr] at e3
              simpa using e3
            have hrl : r.2.2.length = n := by rw [hr2]; exact (HD.out.rows _ (List.mem_of_getElem? hr0)).1
            have hvb := HME.out.2.2 v (List.mem_of_getElem? hv)
            obtain ⟨vn, rfl⟩ : ∃ vn : Nat, v = vn := ⟨v.toNat, by omega⟩
            obtain ⟨x, hx⟩ : ∃ x, r.2.2[vn]? = some x := ⟨_, List.getElem?_eq_getElem (by omega)⟩
            have hz2 : z = x + d := by
              have e4 : (named (nums R) cols)[j]? = some x := by
                unfold named
                rw [List.getElem?_zipWith, hr0, hv]
                simp [← hr2, hx]
              rw [List.getElem?_map, e4] at hzo
              simpa using hzo.symm
            have hrm := List.mem_of_getElem? hr
            have hcx := hg2.numAt hrm hx
            have hfz := (hg2.rows _ hrm).frozenAt (g := r.1) (cap := r.2.1) vn
            obtain ⟨A4, cap4, he4, _, _, hcell4⟩ := hg2.hd
            injection he4 with he5 he6 he7
            subst he5 he7
            obtain ⟨ah, rfl, hcr⟩ := hcell4 j r hr
            have hb2 := cell_of_row _ b 0 _ _ _ hg2.cell
            simp only [List.getElem?_toArray, List.getElem?_cons_zero] at hb2
            rw [HR.out] at hb2
            have hkc : Rd .i64 wr A cols := HC3.out.keep hk2 (fun a ha hF => HAP.out a ha ((HGF.out _).2 hF))
            obtain ⟨ad, rfl, hcv⟩ := hkc j vn hv
            have hko : Rd .i64 wr (some A1) ((named (nums R) cols).map (· + d)) := HRD.out.keep hk2 (fun a ha hF => by injection ha with ha; subst ha; have := HLT.out _ hF; omega)
            have hcz := hko.at hzo
            have hxb := (HD.out.rows _ (List.mem_of_getElem? hr0)).2
            have hadd : (⟨r.1, 0, none⟩ : Addr).add vn = ⟨r.1, vn, none⟩ := by rw [Ord.add_at, Nat.zero_add]
            have hput := hg2.put hr vn z
            have hkp : Kept (RF b (.slice (some ah) R.length caph) R) w3 (wr.setCell ⟨r.1, vn, none⟩ (.int .i64 z)) := hk2.set (.inl ((hrf2 _).1 (.inr (.inr ⟨r, hrm, rfl⟩)))) _ _
            rw [← hadd] at hput hkp hfz
            have hnn : nums (set2 R2 j vn z) = half (nums R) cols d (j + 1) := by
              rw [nums_set2, hn2, hz2]
              exact half_next hcl hr0 hv (by rw [← hr2]; exact hx)
            have hl2 : (set2 R2 j vn z).length = R.length := by rw [set2_len]; exact hlen2
            have HNN := Lib.hid hnn
            have HLL := Lib.hid hl2
            obtain ⟨gr, gc, zs⟩ := r
            unfold rowHd at hcr
            simp only at hcr hrl hcx hput hkp hfz
            rw [hrl] at hcr
            obtain ⟨gad, hgad⟩ : ∃ gad : Addr, (⟨gr, 0, none⟩ : Addr) = gad := ⟨_, rfl⟩
            rw [hgad] at hcr hcx hput hkp hfz
            have HPU := Lib.hid hput
            have HKP := Lib.hid hkp
            clear hv hr hx hzo hr0 hr2 hrl hrm hg2 hrf2 hn2 hk2 hlen2 hkc hko hput hkp hnn hl2 hadd hcl hjR hgad hcell4 hz2 hxb
            go_wp2
            go_region
            go_wp2
            go_roundw
            case rel => exact ⟨j + 1, _, by omega, by go_num, HPU.out.keep (Kept.of_below (F := fun _ => False) (Below.drew (Below.refl _ _))) (fun _ _ h => h), HLL.out, fun x => (RF_set2 x).trans (HRF.out x), HNN.out, HKP.out.drew⟩
            case measure => simp [intOf]; omega
          · have e : j = k := by omega
            subst e
            have hfull : nums R2 = changed (nums R) cols d := by
              rw [hn2]
              have h5 := half_full (L := nums R) (cols := cols) d (by rw [HL.out, HD.out.len])
              rw [HD.out.len] at h5
              exact h5
            have HFU := Lib.hid hfull
            clear hfull hg2 hrf2 hn2 hk2 hlen2
            go_wp2
            go_ret
            refine ⟨ret_i (by rw [HCD.out, HFT.out]; rfl), F, ?_, (Kept.of_below (F := F) HBL.out).trans HK2.out (fun x hx h => (HGF.out x).2 h), fun x h => .inl h⟩
            rw [HCR.out, HFT.out]
            refine ⟨b, _, R2, rfl, HG2.out, HFU.out, fun x => (HGF.out x).trans (HRF.out x).symm, ?_⟩
            exact changed_dims HD.out HL.out HFT.out
  · have e1 : meetB m n cols = false := decide_eq_false hme
    have HCD : Hid (chCode m n L cols d = 1) := Lib.hid (if_neg hme)
    have HRE : Hid (chRes m n L cols d = L) := Lib.hid (if_neg (fun h => hme h.1))
    clear h hc hl hz hme hap
    go_enter Tryz.func74, Tryz.ntmps74
    go_wp2_with (go_at_call 83; (with_reducible refine (rmeet_any q F m n L A N cap cols _ (dg_up HH.out (by repeat' (first | (with_reducible exact Below.refl _ _) | (with_reducible assumption) | (with_reducible refine below_over ?_ _ _) | (with_reducible refine Lw.below_alloc ?_ _) | (with_reducible refine Below.drew ?_) | (with_reducible refine below_drewN ?_ _) | (with_reducible refine Below.setCell ?_ ?_ _) | go_size))) (HC.out.up (by repeat' (first | (with_reducible exact Below.refl _ _) | (with_reducible assumption) | (with_reducible refine below_over ?_ _ _) | (with_reducible refine Lw.below_alloc ?_ _) | (with_reducible refine Below.drew ?_) | (with_reducible refine below_drewN ?_ _) | (with_reducible refine Below.setCell ?_ ?_ _) | go_size))) HL.out hN HZ.out).mono ?_); rintro e w2 ⟨rfl, hb2⟩; have HBW : Hid (Below w.heap.size w w2) := Lib.hid (below_call (by repeat' (first | (with_reducible exact Below.refl _ _) | (with_reducible assumption) | (with_reducible refine below_over ?_ _ _) | (with_reducible refine Lw.below_alloc ?_ _) | (with_reducible refine Below.drew ?_) | (with_reducible refine below_drewN ?_ _) | (with_reducible refine Below.setCell ?_ ?_ _) | go_size)) hb2 (Nat.le_refl _)); clear hb2)
    all_goals go_ret
    all_goals exact ⟨ret_i HCD.out.symm, F, by rw [HRE.out]; exact dg_up HH.out HBW.out, Kept.of_below HBW.out, fun k h => .inl h⟩
end Go.Proofs.YtiblpdjehknbcaaGreat.Lin
/- What the statements of layer 8 lean on. Printed by wip/gen/linlaws.py. -/
namespace Go.Proofs.YtiblpdjehknbcaaGreat.Lin
open Go Go.RowKit Lw Grd
set_option linter.unusedVariables false
set_option linter.unusedSimpArgs false
theorem pg0 {w0 w : World} {p : Addr} {F : Nat → Prop} {m n : Nat} {L : List (List Int)} {ts : List Thing} (h : Have w0 w (pgT p F m n L :: ts)) : PG w p F m n L := h.1
theorem new_mn (rows width : Int) (m n : Nat) (w : World) (hm : cl rows 8 = m) (hn : cl width 128 = n) (r0 : -9223372036854775808 ≤ rows) (r1 : rows ≤ 9223372036854775807) (c0 : -9223372036854775808 ≤ width) (c1 : width ≤ 9223372036854775807) :
    Calls Tryz.prog 67 #[.int .i64 rows, .int .i64 width] w fun e w' => ∃ (p : Addr) (F : Nat → Prop), e = .returned (.pointer (some p)) ∧ PG w' p F m n (zerosL m n) ∧ (∀ k, F k → w.heap.size ≤ k) ∧ Below w.heap.size w w' := by
  subst hm hn
  exact new_any rows width w r0 r1 c0 c1
/-- A block that is made now is none of a thing's. -/
theorem new_apart {w0 w : World} {t : Thing} {ts : List Thing} (h : Have w0 w (t :: ts)) : ∀ a, (some (⟨w.heap.size, 0, none⟩ : Addr)) = some a → ¬ t.F a.block := by
  intro a ha hf
  injection ha with ha
  subst ha
  have := t.lt w h.1 _ hf
  simp at this
theorem c28 : cl 2 8 = 2 := by decide
theorem c3128 : cl 3 128 = 3 := by decide
def sZ : List (List Int) := zerosL 2 3
def sA : List (List Int) := chRes 2 3 sZ [0, 1] 5
def sB : List (List Int) := chRes 2 3 sA [0, 2] 7
def sC : List (List Int) := chRes 2 3 sB [0, 3] 7
theorem q1 : chCode 2 3 sZ [0, 1] 5 = 0 := by decide
theorem q2 : chCode 2 3 sA [0, 2] 7 = 0 := by decide
theorem q3 : chCode 2 3 sB [0, 3] 7 = 1 := by decide
theorem q4 : rdCode 2 3 [0, 1] = 0 := by decide
theorem q5 : rdCode 2 3 [0, 2] = 0 := by decide
theorem q6 : readOf 2 3 sC [0, 1] = [12, 5] := by decide
theorem q7 : Ord.kv (readOf 2 3 sC [0, 1]) 0 = 5 := by decide
theorem q8 : Ord.kv (readOf 2 3 sC [0, 2]) ((((readOf 2 3 sC [0, 2]).length : Int) - 1) / 2) = 7 := by decide
/-- A step: its columns and what is added. -/
structure StepV where
  A : Option Addr
  n : Nat
  c : Nat
  zs : List Int
  d : Int
structure StepV.In (s : StepV) (w : World) : Prop where
  nil : s.A = none → s.n = 0 ∧ s.c = 0
  nc : s.n ≤ s.c
  cm : s.c ≤ maxLen
  rd : Rd .i64 w s.A s.zs
  len : s.zs.length = s.n
  zb : In64 s.zs
  db : -9223372036854775808 ≤ s.d ∧ s.d ≤ 9223372036854775807
theorem step_int_c : Tryz.prog.cellsOf 3 = 1 := by kernel_rfl
theorem sized_part (x m : Int) (hm0 : 1 ≤ m) (hm1 : m ≤ 65536) : ∃ X Y, bits .and .i64 x 65535 = X ∧ 0 ≤ X ∧ X ≤ 65535 ∧ Int.tmod X m = Y ∧ x % 65536 % m = Y ∧ 0 ≤ Y ∧ Y < m :=
  ⟨x % 65536, x % 65536 % m, and16i x, by omega, by omega, Int.tmod_eq_emod_of_nonneg (by omega), rfl, Int.emod_nonneg _ (by omega), Int.emod_lt_of_pos _ (by omega)⟩
def rowsOf (x : Int) : Nat := (1 + x % 65536 % 5).toNat
def widthOf (x : Int) : Nat := (1 + x % 65536 % 9).toNat
theorem rows_bd (x : Int) : 1 ≤ rowsOf x ∧ rowsOf x ≤ 5 := by unfold rowsOf; omega
theorem width_bd (x : Int) : 1 ≤ widthOf x ∧ widthOf x ≤ 9 := by unfold widthOf; omega
end Go.Proofs.YtiblpdjehknbcaaGreat.Lin
