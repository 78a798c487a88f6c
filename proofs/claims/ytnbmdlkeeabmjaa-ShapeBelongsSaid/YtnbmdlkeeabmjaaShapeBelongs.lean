/- The statement ShapeBelongs of layer 7 holds. Printed by wip/gen/shplaws.py. -/
import Derived.Test.YtnbmdlkeeabmjaaShpLawA
import Derived.Deep.LoopGhost
import Derived.Deep.RegionHeld3
import Derived.Deep.MidRow
import Derived.Deep.DeepCutAuto
import Derived.Deep.QuietTactic
import Derived.BigQuiet
namespace Go.Proofs.Ytnbmdlkeeabmjaa.Shp
open Go Go.RowKit Lw
set_option linter.unusedVariables false
set_option linter.unusedSimpArgs false
theorem two_boxes (w : World) (e f : TypeId) (vs us : Array Value) : Have w ((w.alloc (.cells vs e)).alloc (.cells us f)) [boxT (w.heap.size + 1) f us, boxT w.heap.size e vs] := by
  have h := (box_new w e vs).push (boxT (w.alloc (.cells vs e)).heap.size f us) (Lw.below_alloc (Below.refl _ _) _) (heap_alloc_new _ _) (fun k hk => Nat.le_of_eq hk.symm)
  rwa [show (w.alloc (.cells vs e)).heap.size = w.heap.size + 1 from by simp] at h
theorem arr2_uint64_u : Try.prog.underlying 42 = some (.array 2 22) := by kernel_rfl
theorem arr2_uint64_c : Try.prog.cellsOf 42 = 2 := by kernel_rfl
theorem arr2_uint64_e : Try.prog.cellsOf 22 = 1 := by kernel_rfl
theorem arr2_uint64_k : Try.prog.underlying 22 = some (.int .u64) := by kernel_rfl
theorem arr2_uint64_l {α : Type} (T : Array α) (h : T.size = 2) : ∃ x0 x1 : α, T = #[x0, x1] := by
  obtain ⟨l⟩ := T
  match l, h with
  | [x0, x1], _ => exact ⟨x0, x1, rfl⟩
theorem open_arr2_uint64 {H : Type} {enc : TypeId × Value → H} {W : World} {v : Value} {d : DataW H} {p : List MemPlace} {base : Nat} (hv : Value.okWide Try.prog W .any base 42 v)
    (h : DataW.Trod enc Try.prog W 0 (fun _ => true) true 42 v d p) :
    ∃ x0 x1 : Int, v = .agg #[.int .u64 x0, .int .u64 x1] ∧ (0 ≤ x0 ∧ x0 ≤ 18446744073709551615) ∧ (0 ≤ x1 ∧ x1 ≤ 18446744073709551615) := by
  have hcs : ∃ cs : Array Value, v = .agg cs ∧ cs.size = Try.prog.cellsOf 42 := by
    simp only [Value.okWide, arr2_uint64_u] at hv
    obtain ⟨cs, h1, h2, _⟩ := hv
    exact ⟨cs, h1, h2⟩
  obtain ⟨cs, rfl, hsz⟩ := hcs
  obtain ⟨c0, c1, rfl⟩ := arr2_uint64_l _ (hsz.trans arr2_uint64_c)
  obtain ⟨fuel, hf⟩ := h
  obtain ⟨xs, m, _, _, _, hlen, hg⟩ := DataW.trod_array arr2_uint64_u hf
  have g0 := hg 0 (by omega)
  have g1 := hg 1 (by omega)
  rw [arr2_uint64_e] at g0 g1
  match xs, hlen with
  | [y0, y1], _ =>
    simp [Value.cells] at g0 g1
    obtain ⟨x0, e0, _, w0⟩ := DataW.trod_int arr2_uint64_k g0
    obtain ⟨x1, e1, _, w1⟩ := DataW.trod_int arr2_uint64_k g1
    simp at e0 e1
    subst e0 e1
    exact ⟨x0, x1, rfl, Lw.wf_u64 w0, Lw.wf_u64 w1⟩
theorem rem_of (k K : Int) (k0 : 0 ≤ k) (hK : 1 ≤ K) : ∃ a, k % K = a ∧ 0 ≤ a ∧ a < K ∧ Int.tmod k K = a :=
  ⟨k % K, rfl, Int.emod_nonneg _ (by omega), Int.emod_lt_of_pos _ (by omega), Int.tmod_eq_emod_of_nonneg k0⟩
/-- What ShapeBelongs says of numbers. -/
structure Belong (C : Cfg) (l : Nat) (a b : Int) : Prop where
  ok1 : aboveOk C l a = true
  ok2 : aboveOk C (l + 1) a = true
  ok3 : aboveOk C l b = true
  v1 : aboveV C l a = a / 2 ^ l
  v2 : aboveV C (l + 1) a = a / 2 ^ l / 2
  v3 : aboveV C l b = b / 2 ^ l
  lt : a / 2 ^ l < keys C l
  start : a / 2 ^ l * 2 ^ l ≤ a
  within : (a / 2 ^ l = b / 2 ^ l) ↔ (a / 2 ^ l * 2 ^ l ≤ b ∧ b - a / 2 ^ l * 2 ^ l < 2 ^ l)
theorem belong_math {C : Cfg} (hr : IsRight C) (l : Nat) (a b : Int) (h0 : 0 ≤ (l : Int)) (h1 : (l : Int) < C.bt) (a0 : 0 ≤ a) (a1 : a < keys C 0) (b0 : 0 ≤ b) (b1 : b < keys C 0) : Belong C l a b := by
  have hb := hr.1
  have k1 := keys_pos.2 ⟨hr, h0, (by omega : (l : Int) ≤ C.bt)⟩
  have k2 := keys_pos.2 ⟨hr, (by omega : 0 ≤ (l : Int) + 1), (by omega : (l : Int) + 1 ≤ C.bt)⟩
  have o1 : aboveOk C l a = true := decide_eq_true ⟨by omega, a1⟩
  have o2 : aboveOk C (l + 1) a = true := decide_eq_true ⟨by omega, a1⟩
  have o3 : aboveOk C l b = true := decide_eq_true ⟨by omega, b1⟩
  have hp := pow_pos2 l
  have e1 : ((l : Int)).toNat = l := by omega
  have e2 : ((l : Int) + 1).toNat = l + 1 := by omega
  have e0 : keys C 0 = 2 ^ (C.bt - l).toNat * 2 ^ l := by
    rw [keys_yes hr (by omega) (by omega), ← Int.pow_add]
    congr 1
    omega
  have m1 := Int.ediv_mul_add_emod a (2 ^ l)
  have m2 := Int.emod_nonneg a (show (2 : Int) ^ l ≠ 0 by omega)
  have m3 := Int.emod_lt_of_pos a (show (0 : Int) < 2 ^ l by omega)
  have n1 := Int.ediv_mul_add_emod b (2 ^ l)
  have n2 := Int.emod_nonneg b (show (2 : Int) ^ l ≠ 0 by omega)
  have n3 := Int.emod_lt_of_pos b (show (0 : Int) < 2 ^ l by omega)
  refine ⟨o1, o2, o3, ?_, ?_, ?_, ?_, by omega, ?_⟩
  · unfold aboveV; rw [if_pos o1, e1]
  · unfold aboveV; rw [if_pos o2, e2, pow_div a l l]
  · unfold aboveV; rw [if_pos o3, e1]
  · rw [keys_yes hr h0 (by omega)]
    refine Int.ediv_lt_of_lt_mul (by omega) ?_
    rw [← e0]
    exact a1
  · constructor
    · intro h
      rw [h]
      omega
    · rintro ⟨h2, h3⟩
      have e : b / 2 ^ l = a / 2 ^ l := by
        have f : b = (b - a / 2 ^ l * 2 ^ l) + a / 2 ^ l * 2 ^ l := by omega
        rw [f, Int.add_mul_ediv_right _ _ (by omega), Int.ediv_eq_zero_of_lt (by omega) h3]
        omega
      exact e.symm
set_option maxRecDepth 100000 in
set_option maxHeartbeats 4000000 in
theorem belongs_law (c : Cfg) (l ka kb : Int) (w : World) (h : c.Ok) (l0 : -9223372036854775808 ≤ l) (l1 : l ≤ 9223372036854775807) (ka0 : 0 ≤ ka) (ka1 : ka ≤ 18446744073709551615) (kb0 : 0 ≤ kb) (kb1 : kb ≤ 18446744073709551615) :
    Calls Try.prog 7 #[.agg #[.int .i64 c.bt, .int .i64 c.rw, .int .i64 c.wd, .int .i64 c.md, .int .u64 c.sd], .int .i64 l, .agg #[.int .u64 ka, .int .u64 kb]] w fun e w' => e = .returned (.bool true) ∧ Below w.heap.size w w' := by
  have HO := Lib.hid h
  obtain ⟨C, hC⟩ : ∃ C, anyC c 59 128 = C := ⟨_, rfl⟩
  have hr : IsRight C := by rw [← hC]; exact any_right c 59 128 (by omega) (by omega) (by omega) (by omega)
  have hok : C.Ok := by rw [← hC]; exact any_ok c h 59 128 (by omega) (by omega) (by omega) (by omega)
  have HC := Lib.hid hC
  have HK := Lib.hid hok
  have HRI := Lib.hid hr
  obtain ⟨q1, q2, q3, q4, q5, q6, q7, q8⟩ := hr
  clear hC h hok
  obtain ⟨X, L, a1, a2, a3, a4, a5, a6⟩ := level_of l C.bt q1 (by omega)
  obtain ⟨Ln, rfl⟩ : ∃ Ln : Nat, L = Ln := ⟨L.toNat, by omega⟩
  have nb : ¬ C.bt = 0 := by omega
  have u1 : IntKind.i64.wrap ((Ln : Int) + 1) = (Ln : Int) + 1 := IntWalk.i64_in _ ⟨by omega, by omega⟩
  have g1 := keys_bd C 0
  have g0 := keys_pos.2 ⟨HRI.out, (by omega : (0 : Int) ≤ 0), (by omega : (0 : Int) ≤ C.bt)⟩
  obtain ⟨K, hK⟩ : ∃ K, keys C 0 = K := ⟨_, rfl⟩
  rw [hK] at g0 g1
  have HKK := Lib.hid hK
  obtain ⟨a, ha, a0, a7, ta⟩ := rem_of ka K ka0 (by omega)
  obtain ⟨b, hb', b0, b7, tb⟩ := rem_of kb K kb0 (by omega)
  have HBE := Lib.hid (belong_math HRI.out Ln a b a5 a6 a0 (by rw [hK]; exact a7) b0 (by rw [hK]; exact b7))
  have hK0 : ¬ K = 0 := by omega
  obtain ⟨o1, o2, o3, v1, v2, v3, vlt, vst, vw⟩ := HBE.out
  have plo := div_bd a Ln a0
  have pp := pow_pos2 Ln
  have pb := pow59 (a := Ln) (by omega)
  obtain ⟨lo, hlo⟩ : ∃ lo, a / 2 ^ Ln = lo := ⟨_, rfl⟩
  obtain ⟨ot, hot⟩ : ∃ ot, b / 2 ^ Ln = ot := ⟨_, rfl⟩
  obtain ⟨hi, hhi⟩ : ∃ hi, lo / 2 = hi := ⟨_, rfl⟩
  obtain ⟨P, hP⟩ : ∃ P, (2 : Int) ^ Ln = P := ⟨_, rfl⟩
  obtain ⟨KL, hKL⟩ : ∃ KL, keys C Ln = KL := ⟨_, rfl⟩
  rw [hlo] at v1 v2 vlt vst vw plo
  rw [hot] at v3 vw
  rw [hhi] at v2
  rw [hP] at vst vw pp pb
  rw [hKL] at vlt
  obtain ⟨st, hst⟩ : ∃ st, lo * P = st := ⟨_, rfl⟩
  rw [hst] at vst vw
  have st0 : 0 ≤ st := by rw [← hst]; exact Int.mul_nonneg plo.1 (by omega)
  have wS : IntKind.u64.wrap (lo * 2 ^ Ln) = st := by rw [hP, hst]; exact IntWalk.u64_in _ ⟨by omega, by omega⟩
  have wP : IntKind.u64.wrap (2 ^ Ln) = P := by rw [hP]; exact IntWalk.u64_in _ ⟨by omega, by omega⟩
  have tH : Int.tdiv lo 2 = hi := by rw [Int.tdiv_eq_ediv_of_nonneg plo.1, hhi]
  have wH : IntKind.u64.wrap hi = hi := IntWalk.u64_in _ ⟨by omega, by omega⟩
  have hKK := hKL
  clear hK hlo hot hhi hP hst HBE hKL
  go_enter Try.func7, Try.ntmps7
  go_wp2_with (first
    | (go_at_call 9; (with_reducible refine (shown_any _).mono ?_); rintro e w1 ⟨rfl, hb⟩; have HV := Lib.hid ((two_boxes w _ _ _ _).up hb); clear hb; have x0 := box_cell (bx1 HV.out) (i := 0) rfl; have x1 := box_cell (bx1 HV.out) (i := 1) rfl; have x2 := box_cell (bx1 HV.out) (i := 2) rfl; have x3 := box_cell (bx1 HV.out) (i := 3) rfl; have x4 := box_cell (bx1 HV.out) (i := 4) rfl; have z0 := box_cell (bx0 HV.out) (i := 0) rfl; have z1 := box_cell (bx0 HV.out) (i := 1) rfl; have hlt : w.heap.size + 1 < w1.heap.size := box_lt (bx0 HV.out))
    | (go_at_call 21; (with_reducible refine (rany_at c 59 128 C _ HO.out (by omega) (by omega) (by omega) (by omega) HC.out).mono ?_); rintro e w2 ⟨rfl, hb⟩; have HV2 := Lib.hid (HV.out.up (below_call (by repeat' (first | (with_reducible exact Below.refl _ _) | (with_reducible assumption) | (with_reducible refine below_over ?_ _ _) | (with_reducible refine Lw.below_alloc ?_ _) | (with_reducible refine Below.drew ?_) | (with_reducible refine below_drewN ?_ _) | (with_reducible refine Below.setCell ?_ ?_ _) | go_size)) hb (Nat.le_refl _))); have HBW : Hid (Below w1.heap.size w1 w2) := Lib.hid (below_call (by repeat' (first | (with_reducible exact Below.refl _ _) | (with_reducible assumption) | (with_reducible refine below_over ?_ _ _) | (with_reducible refine Lw.below_alloc ?_ _) | (with_reducible refine Below.drew ?_) | (with_reducible refine below_drewN ?_ _) | (with_reducible refine Below.setCell ?_ ?_ _) | go_size)) hb (Nat.le_refl _)); clear hb; have HV3 := Lib.hid (HV2.out.push (boxT w2.heap.size 24 #[.int .i64 C.bt, .int .i64 C.rw, .int .i64 C.wd, .int .i64 C.md, .int .u64 C.sd]) (Lw.below_alloc (Below.refl _ _) (.cells #[.int .i64 C.bt, .int .i64 C.rw, .int .i64 C.wd, .int .i64 C.md, .int .u64 C.sd] 24)) (heap_alloc_new w2 _) (fun k hk => Nat.le_of_eq hk.symm)); have y0 := box_cell (bx0 HV3.out) (i := 0) rfl; have y1 := box_cell (bx0 HV3.out) (i := 1) rfl; have y2 := box_cell (bx0 HV3.out) (i := 2) rfl; have y3 := box_cell (bx0 HV3.out) (i := 3) rfl; have y4 := box_cell (bx0 HV3.out) (i := 4) rfl; have z0b := box_cell (bx1 HV3.out) (i := 0) rfl; have z1b := box_cell (bx1 HV3.out) (i := 1) rfl))
  go_region_held3 (fun w' => w'.cell? ⟨w2.heap.size, 0, none⟩ = some (.int .i64 C.bt) ∧ w'.cell? ⟨w2.heap.size, 1, none⟩ = some (.int .i64 C.rw) ∧ w'.cell? ⟨w2.heap.size, 2, none⟩ = some (.int .i64 C.wd) ∧ w'.cell? ⟨w2.heap.size, 3, none⟩ = some (.int .i64 C.md) ∧ w'.cell? ⟨w2.heap.size, 4, none⟩ = some (.int .u64 C.sd) ∧ w'.cell? ⟨w.heap.size + 1, 0, none⟩ = some (.int .u64 ka) ∧ w'.cell? ⟨w.heap.size + 1, 1, none⟩ = some (.int .u64 kb)) (refine ⟨cell_up y0 ?_, cell_up y1 ?_, cell_up y2 ?_, cell_up y3 ?_, cell_up y4 ?_, cell_up z0b ?_, cell_up z1b ?_⟩ <;> (repeat' (first | (with_reducible exact Below.refl _ _) | (with_reducible assumption) | (with_reducible refine below_over ?_ _ _) | (with_reducible refine Lw.below_alloc ?_ _) | (with_reducible refine Below.drew ?_) | (with_reducible refine below_drewN ?_ _) | (with_reducible refine Below.setCell ?_ ?_ _) | go_size))) (first
      | (go_at_call 13; (with_reducible refine (rkeys_any C 0 _ HK.out (by omega) (by omega)).mono ?_); rintro e w3 ⟨he, hb⟩; rw [HKK.out] at he; subst he; obtain ⟨bs, d, rfl⟩ := below_grow hb; clear hb))
  go_wp2
  go_region_held3 (fun w' => w'.cell? ⟨w2.heap.size, 0, none⟩ = some (.int .i64 C.bt) ∧ w'.cell? ⟨w2.heap.size, 1, none⟩ = some (.int .i64 C.rw) ∧ w'.cell? ⟨w2.heap.size, 2, none⟩ = some (.int .i64 C.wd) ∧ w'.cell? ⟨w2.heap.size, 3, none⟩ = some (.int .i64 C.md) ∧ w'.cell? ⟨w2.heap.size, 4, none⟩ = some (.int .u64 C.sd) ∧ w'.cell? ⟨w.heap.size + 1, 0, none⟩ = some (.int .u64 ka) ∧ w'.cell? ⟨w.heap.size + 1, 1, none⟩ = some (.int .u64 kb)) (refine ⟨cell_up y0 ?_, cell_up y1 ?_, cell_up y2 ?_, cell_up y3 ?_, cell_up y4 ?_, cell_up z0b ?_, cell_up z1b ?_⟩ <;> (repeat' (first | (with_reducible exact Below.refl _ _) | (with_reducible assumption) | (with_reducible refine below_over ?_ _ _) | (with_reducible refine Lw.below_alloc ?_ _) | (with_reducible refine Below.drew ?_) | (with_reducible refine below_drewN ?_ _) | (with_reducible refine Below.setCell ?_ ?_ _) | go_size))) (first
      | (go_at_call 13; (with_reducible refine (rkeys_any C 0 _ HK.out (by omega) (by omega)).mono ?_); rintro e w3 ⟨he, hb⟩; rw [HKK.out] at he; subst he; obtain ⟨bs, d, rfl⟩ := below_grow hb; clear hb))
  by_cases c1 : st ≤ b
  · have wD : IntKind.u64.wrap (b - st) = b - st := IntWalk.u64_in _ ⟨by omega, by omega⟩
    by_cases c2 : b - st < P
    · have ce : (lo == ot) = true := by simpa using vw.2 ⟨c1, c2⟩
      clear vw
      go_wp2_with (first
        | (go_at_call 16; (first | with_reducible refine (above_any C Ln a _ HK.out (by omega) (by omega) (by omega) (by omega)).mono ?_ | with_reducible refine (above_any C (Ln + 1) a _ HK.out (by omega) (by omega) (by omega) (by omega)).mono ?_ | with_reducible refine (above_any C Ln b _ HK.out (by omega) (by omega) (by omega) (by omega)).mono ?_); rintro e w' ⟨rfl, hb⟩; obtain ⟨bs, d, rfl⟩ := below_grow hb; clear hb)
        | (go_at_call 12; (with_reducible refine (keys_any C Ln _ HK.out (by omega) (by omega)).mono ?_); rintro e w' ⟨rfl, hb⟩; obtain ⟨bs, d, rfl⟩ := below_grow hb; clear hb))
      all_goals go_ret
      all_goals exact ⟨ret_b (by first | rfl | (simp [*]; done) | (simp [*]; omega)), below_call HV3.out.below (by repeat' (first | (with_reducible exact Below.refl _ _) | (with_reducible assumption) | (with_reducible refine below_over ?_ _ _) | (with_reducible refine Lw.below_alloc ?_ _) | (with_reducible refine Below.drew ?_) | (with_reducible refine below_drewN ?_ _) | (with_reducible refine Below.setCell ?_ ?_ _) | go_size)) (Nat.le_refl _)⟩
    · have ce : (lo == ot) = false := by simpa using fun h => c2 (vw.1 h).2
      clear vw
      go_wp2_with (first
        | (go_at_call 16; (first | with_reducible refine (above_any C Ln a _ HK.out (by omega) (by omega) (by omega) (by omega)).mono ?_ | with_reducible refine (above_any C (Ln + 1) a _ HK.out (by omega) (by omega) (by omega) (by omega)).mono ?_ | with_reducible refine (above_any C Ln b _ HK.out (by omega) (by omega) (by omega) (by omega)).mono ?_); rintro e w' ⟨rfl, hb⟩; obtain ⟨bs, d, rfl⟩ := below_grow hb; clear hb)
        | (go_at_call 12; (with_reducible refine (keys_any C Ln _ HK.out (by omega) (by omega)).mono ?_); rintro e w' ⟨rfl, hb⟩; obtain ⟨bs, d, rfl⟩ := below_grow hb; clear hb))
      all_goals go_ret
      all_goals exact ⟨ret_b (by first | rfl | (simp [*]; done) | (simp [*]; omega)), below_call HV3.out.below (by repeat' (first | (with_reducible exact Below.refl _ _) | (with_reducible assumption) | (with_reducible refine below_over ?_ _ _) | (with_reducible refine Lw.below_alloc ?_ _) | (with_reducible refine Below.drew ?_) | (with_reducible refine below_drewN ?_ _) | (with_reducible refine Below.setCell ?_ ?_ _) | go_size)) (Nat.le_refl _)⟩
  · have ce : (lo == ot) = false := by simpa using fun h => c1 (vw.1 h).1
    clear vw
    go_wp2_with (first
      | (go_at_call 16; (first | with_reducible refine (above_any C Ln a _ HK.out (by omega) (by omega) (by omega) (by omega)).mono ?_ | with_reducible refine (above_any C (Ln + 1) a _ HK.out (by omega) (by omega) (by omega) (by omega)).mono ?_ | with_reducible refine (above_any C Ln b _ HK.out (by omega) (by omega) (by omega) (by omega)).mono ?_); rintro e w' ⟨rfl, hb⟩; obtain ⟨bs, d, rfl⟩ := below_grow hb; clear hb)
      | (go_at_call 12; (with_reducible refine (keys_any C Ln _ HK.out (by omega) (by omega)).mono ?_); rintro e w' ⟨rfl, hb⟩; obtain ⟨bs, d, rfl⟩ := below_grow hb; clear hb))
    all_goals go_ret
    all_goals exact ⟨ret_b (by first | rfl | (simp [*]; done) | (simp [*]; omega)), below_call HV3.out.below (by repeat' (first | (with_reducible exact Below.refl _ _) | (with_reducible assumption) | (with_reducible refine below_over ?_ _ _) | (with_reducible refine Lw.below_alloc ?_ _) | (with_reducible refine Below.drew ?_) | (with_reducible refine below_drewN ?_ _) | (with_reducible refine Below.setCell ?_ ?_ _) | go_size)) (Nat.le_refl _)⟩
namespace shapeBelongs
open Go.ChangeShapes Go.WideShapes Go.ChangeAt Go.Joins
set_option maxRecDepth 100000 in
theorem lifted (os : Os) (started : os.Started) (H : Type) (enc : TypeId × Value → H) :
    ReturnsInHanded {} Try.checked os 7 .any (Rows.shapeBelongsSpec.pre6 enc Try.prog Try.f7 Rows.shapeBelongsRow.domain false) (Rows.shapeBelongsSpec.post enc Try.prog Try.f7 false true false false) := by
  refine Lw.lifted (C := Try.checked) (B := 4) (by kernel_rfl) os started (by kernel_rfl) Try.func7
    (ChangeSpec.witness6 (enc := enc) (C := Try.checked) false ⟨#[], #[.agg #[.int .i64 0, .int .i64 0, .int .i64 0, .int .i64 0, .int .u64 0], .int .i64 0, .agg #[.int .u64 0, .int .u64 0]], []⟩ 8 (by kernel_rfl) (by kernel_rfl) (by kernel_rfl) (by kernel_rfl)) rfl Try.underlying4 (by kernel_rfl) (by kernel_rfl) (by kernel_rfl) ?_ ?_
  · intro ds h
    rw [Try.params7] at h
    match ds, h with
    | [_, _, _], _ => rfl
  · intro W base args ds p hval hA
    rw [Try.params7] at hA hval
    obtain ⟨v0, vs0, d0, ds0, p0, q0, hargs, rfl, rfl, h0, r0⟩ := trodAll_cons hA
    obtain ⟨v1, vs1, d1, ds1, p1, q1, rfl, rfl, rfl, h1, r1⟩ := trodAll_cons r0
    obtain ⟨v2, vs2, d2, ds2, p2, q2, rfl, rfl, rfl, h2, r2⟩ := trodAll_cons r1
    obtain ⟨rfl, rfl, rfl⟩ := trodAll_nil r2
    obtain rfl : args = #[v0, v1, v2] := by cases args; simp_all
    obtain ⟨x0, x1, x2, x3, x4, rfl, z0, z1, z2, z3, z4⟩ := open_cfg (hval 0 24 v0 rfl rfl) h0
    obtain ⟨a1, rfl, rfl, rfl, w1⟩ := open_int Try.underlying3 (hval 1 3 v1 rfl rfl) h1
    have b1 := Lw.wf_i64 w1
    obtain ⟨x2_0, x2_1, rfl, z2_0, z2_1⟩ := open_arr2_uint64 (hval 2 42 v2 rfl rfl) h2
    exact belongs_law ⟨x0, x1, x2, x3, x4⟩ a1 x2_0 x2_1 W ⟨z0.1, z0.2, z1.1, z1.2, z2.1, z2.2, z3.1, z3.2, z4.1, z4.2⟩ b1.1 b1.2 z2_0.1 z2_0.2 z2_1.1 z2_1.2
theorem over : Rows.shapeBelongsRow.holds Try.pinned (OpenSpec.ofChange Rows.shapeBelongsSpec) :=
  OpenClaim.holds_of_wide 7 Try.f7 rfl rfl rfl rfl rfl rfl rfl ⟨rfl, rfl, rfl, rfl, rfl⟩ rfl rfl rfl rfl rfl (by kernel_rfl) Try.func7 (by kernel_rfl)
    (of_decide_eq_true (by kernel_rfl)) (by unfold Func.isWrapper; first | (rw [if_pos (by decide +kernel)]; kernel_rfl) | (rw [if_neg (by decide +kernel)]; exact ⟨rfl, rfl⟩))
    (fun os started H enc _ => lifted os started H enc)
theorem proved : Rows.ShapeBelongsSaid :=
  over
#print axioms proved
end shapeBelongs
end Go.Proofs.Ytnbmdlkeeabmjaa.Shp
