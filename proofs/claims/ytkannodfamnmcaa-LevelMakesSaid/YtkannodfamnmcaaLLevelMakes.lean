/- The statement LevelMakes of layer 13 holds: an exact level is an array, another one a sketch; any config and level, raw. Printed by wip/gen/levlaws.py. -/
import Derived.Test.YtkannodfamnmcaaMi
import Derived.Deep.LoopGhost
import Derived.Deep.RegionHeld3
import Derived.Deep.DeepCutAuto
import Derived.Deep.QuietTactic
import Derived.BigQuiet
namespace Go.Proofs.Ytkannodfamnmcaa.Lev
open Go Go.RowKit Lw Grd Lin Con Shp Sk Exa Inn
set_option linter.unusedVariables false
set_option linter.unusedSimpArgs false
theorem naA_Config (p : Addr) (w : World) : (nilAhead 267 48 (.pointer (some p)) "Config").run Try.prog w = .ok (some false) w := by kernel_rfl
theorem naA_Level (p : Addr) (w : World) : (nilAhead 267 48 (.pointer (some p)) "Level").run Try.prog w = .ok (some false) w := by kernel_rfl
theorem naA_Cells (p : Addr) (w : World) : (nilAhead 267 48 (.pointer (some p)) "Cells").run Try.prog w = .ok (some false) w := by kernel_rfl
theorem naS_Config (p : Addr) (w : World) : (nilAhead 267 32 (.pointer (some p)) "Config").run Try.prog w = .ok (some false) w := by kernel_rfl
theorem naS_Level (p : Addr) (w : World) : (nilAhead 267 32 (.pointer (some p)) "Level").run Try.prog w = .ok (some false) w := by kernel_rfl
theorem naS_Cells (p : Addr) (w : World) : (nilAhead 267 32 (.pointer (some p)) "Cells").run Try.prog w = .ok (some false) w := by kernel_rfl
set_option maxRecDepth 100000 in
set_option maxHeartbeats 4000000 in
theorem makes_N (c : Cfg) (l : Int) (w : World) (h : c.Ok) (l0 : -9223372036854775808 ≤ l) (l1 : l ≤ 9223372036854775807) (hk : keys c l = 0) :
    Calls Try.prog 3 #[.agg #[.int .i64 c.bt, .int .i64 c.rw, .int .i64 c.wd, .int .i64 c.md, .int .u64 c.sd], .int .i64 l] w fun e w' => e = .returned (.bool true) ∧ Below w.heap.size w w' := by
  have CN := Lib.hid (fun w => vnew_N c l w h l0 l1 hk)
  have CK := Lib.hid (fun w => rkeys_any c l w h l0 l1)
  rw [hk] at CK
  have HBX : Hid (Have w (w.alloc (.cells #[.int .i64 c.bt, .int .i64 c.rw, .int .i64 c.wd, .int .i64 c.md, .int .u64 c.sd] 24)) [boxT w.heap.size 24 #[.int .i64 c.bt, .int .i64 c.rw, .int .i64 c.wd, .int .i64 c.md, .int .u64 c.sd]]) := Lib.hid (box_new w _ _)
  clear hk h
  go_enter Try.func3, Try.ntmps3
  go_wp2_with (first
    | (go_at_call 6; (with_reducible refine (CK.out _).mono ?_); rintro e w3 ⟨rfl, hb⟩; have HV3 := Lib.hid (HV2.out.up hb); clear hb)
    | (go_at_call 5; (with_reducible refine (CN.out _).mono ?_); rintro e w2 ⟨rfl, hb⟩; have HV2 := Lib.hid (HV1.out.up hb); clear hb; clear c0 c1 c2 c3 c4; obtain ⟨c0, c1, c2, c3, c4⟩ := box5 HV2.out.i0)
    | (go_at_call 4; (with_reducible refine (shown_any _).mono ?_); rintro e w1 ⟨rfl, hb⟩; have HV1 := Lib.hid (HBX.out.up hb); clear hb; obtain ⟨c0, c1, c2, c3, c4⟩ := box5 HV1.out.i0))
  go_ret
  exact ⟨rfl, HV3.out.below⟩
set_option maxRecDepth 100000 in
set_option maxHeartbeats 4000000 in
theorem makes_A (c : Cfg) (l : Int) (w : World) (h : c.Ok) (l0 : -9223372036854775808 ≤ l) (l1 : l ≤ 9223372036854775807) (hx : exactB c l = true) :
    Calls Try.prog 3 #[.agg #[.int .i64 c.bt, .int .i64 c.rw, .int .i64 c.wd, .int .i64 c.md, .int .u64 c.sd], .int .i64 l] w fun e w' => e = .returned (.bool true) ∧ Below w.heap.size w w' := by
  have CN := Lib.hid (fun w => vnew_A c l w h l0 l1 hx)
  have CX := Lib.hid (fun w => rexact_any c l w h l0 l1)
  have CK := Lib.hid (fun w => rkeys_any c l w h l0 l1)
  rw [hx] at CX
  have hk := exact_len hx
  obtain ⟨n, hn⟩ : ∃ n : Nat, keys c l = (n : Int) := ⟨(keys c l).toNat, by omega⟩
  rw [hn] at CK CN hk
  rw [Int.toNat_natCast] at CN
  have hu : IntKind.u64.wrap (n : Int) = n := by rw [IntKind.wrap_u64]; omega
  have hnb : ((n : Int) == 0) = false := by simp; omega
  have CL : Hid (∀ p F w, EX w p F c l (List.replicate n 0) → Calls Try.prog 35 #[.pointer (some p)] w fun e w' => ∃ (g cap : Nat), e = .returned (.slice (some ⟨g, 0, none⟩) n cap) ∧ Below w.heap.size w w') := Lib.hid (fun p F w h => (ecells_mid p F c l _ w h).mono (fun e w' ⟨g, cap, e1, _, _, _, _, e2⟩ => ⟨g, cap, by rw [List.length_replicate] at e1; exact e1, e2⟩))
  have HBX : Hid (Have w (w.alloc (.cells #[.int .i64 c.bt, .int .i64 c.rw, .int .i64 c.wd, .int .i64 c.md, .int .u64 c.sd] 24)) [boxT w.heap.size 24 #[.int .i64 c.bt, .int .i64 c.rw, .int .i64 c.wd, .int .i64 c.md, .int .u64 c.sd]]) := Lib.hid (box_new w _ _)
  clear hx h hk hn
  have nCells := naA_Cells
  have nConfig := naA_Config
  have nLevel := naA_Level
  go_enter Try.func3, Try.ntmps3
  go_upto_region 10 with (first
    | (go_at_call 8; (with_reducible refine (CX.out _).mono ?_); rintro e w5 ⟨rfl, hb⟩; have HV5 := Lib.hid (HV4.out.up hb); clear hb; clear c0 c1 c2 c3 c4; obtain ⟨c0, c1, c2, c3, c4⟩ := box5 HV5.out.i1)
    | (go_at_call 7; (with_reducible refine (vas_A p _).mono ?_); rintro e w4 ⟨rfl, hb⟩; have HV4 := Lib.hid (HV3.out.up hb); clear hb; clear c0 c1 c2 c3 c4; obtain ⟨c0, c1, c2, c3, c4⟩ := box5 HV4.out.i1)
    | (go_at_call 6; (with_reducible refine (CK.out _).mono ?_); rintro e w3 ⟨rfl, hb⟩; have HV3 := Lib.hid (HV2.out.up hb); clear hb; clear c0 c1 c2 c3 c4; obtain ⟨c0, c1, c2, c3, c4⟩ := box5 HV3.out.i1)
    | (go_at_call 5; (with_reducible refine (CN.out _).mono ?_); rintro e w2 ⟨p, F, rfl, h1, h2, hb⟩; have HV2 := Lib.hid (HV1.out.push (exT p F c l (List.replicate n 0)) hb h1 h2); clear h1 h2 hb; clear c0 c1 c2 c3 c4; obtain ⟨c0, c1, c2, c3, c4⟩ := box5 HV2.out.i1)
    | (go_at_call 4; (with_reducible refine (shown_any _).mono ?_); rintro e w1 ⟨rfl, hb⟩; have HV1 := Lib.hid (HBX.out.up hb); clear hb; obtain ⟨c0, c1, c2, c3, c4⟩ := box5 HV1.out.i0))
  go_region_held3 (fun w' => w'.cell? ⟨w.heap.size, 0, none⟩ = some (.int .i64 c.bt) ∧ w'.cell? ⟨w.heap.size, 1, none⟩ = some (.int .i64 c.rw) ∧ w'.cell? ⟨w.heap.size, 2, none⟩ = some (.int .i64 c.wd) ∧ w'.cell? ⟨w.heap.size, 3, none⟩ = some (.int .i64 c.md) ∧ w'.cell? ⟨w.heap.size, 4, none⟩ = some (.int .u64 c.sd)) (first | (refine ⟨?_, ?_, ?_, ?_, ?_⟩ <;> (first | (with_reducible assumption) | (with_reducible refine cell_up c0 ?_) | (with_reducible refine cell_up c1 ?_) | (with_reducible refine cell_up c2 ?_) | (with_reducible refine cell_up c3 ?_) | (with_reducible refine cell_up c4 ?_)) <;> (repeat' (first | (with_reducible exact Below.refl _ _) | (with_reducible assumption) | (with_reducible refine below_over ?_ _ _) | (with_reducible refine Lw.below_alloc ?_ _) | (with_reducible refine Below.drew ?_) | (with_reducible refine below_drewN ?_ _) | (with_reducible refine Below.setCell ?_ ?_ _) | go_size)))) (first
    | (go_at_call 35; (with_reducible refine (CL.out p F _ (exI (HV5.out.up (by repeat' (first | (with_reducible exact Below.refl _ _) | (with_reducible assumption) | (with_reducible refine below_over ?_ _ _) | (with_reducible refine Lw.below_alloc ?_ _) | (with_reducible refine Below.drew ?_) | (with_reducible refine below_drewN ?_ _) | (with_reducible refine Below.setCell ?_ ?_ _) | go_size))).i0)).mono ?_); rintro e w7 ⟨g, cap, rfl, hb⟩; obtain ⟨bs7, d7, rfl⟩ := below_grow hb; clear hb)
    | (go_at_call 33; (with_reducible refine (econfig_any p F c l _ _ (exI (HV5.out.up (by repeat' (first | (with_reducible exact Below.refl _ _) | (with_reducible assumption) | (with_reducible refine below_over ?_ _ _) | (with_reducible refine Lw.below_alloc ?_ _) | (with_reducible refine Below.drew ?_) | (with_reducible refine below_drewN ?_ _) | (with_reducible refine Below.setCell ?_ ?_ _) | go_size))).i0)).mono ?_); rintro e w8 ⟨rfl, hb⟩; obtain ⟨bs8, d8, rfl⟩ := below_grow hb; clear hb)
    | (go_at_call 34; (with_reducible refine (elevel_any p F c l _ _ (exI (HV5.out.up (by repeat' (first | (with_reducible exact Below.refl _ _) | (with_reducible assumption) | (with_reducible refine below_over ?_ _ _) | (with_reducible refine Lw.below_alloc ?_ _) | (with_reducible refine Below.drew ?_) | (with_reducible refine below_drewN ?_ _) | (with_reducible refine Below.setCell ?_ ?_ _) | go_size))).i0)).mono ?_); rintro e w9 ⟨rfl, hb⟩; obtain ⟨bs9, d9, rfl⟩ := below_grow hb; clear hb))
  all_goals go_wp2
  all_goals go_ret
  all_goals exact ⟨ret_bs (by first | rfl | (simp [*]; done)), (HV5.out.up (by repeat' (first | (with_reducible exact Below.refl _ _) | (with_reducible assumption) | (with_reducible refine below_over ?_ _ _) | (with_reducible refine Lw.below_alloc ?_ _) | (with_reducible refine Below.drew ?_) | (with_reducible refine below_drewN ?_ _) | (with_reducible refine Below.setCell ?_ ?_ _) | go_size))).below⟩
set_option maxRecDepth 100000 in
set_option maxHeartbeats 4000000 in
theorem makes_S (c : Cfg) (l : Int) (w : World) (h : c.Ok) (l0 : -9223372036854775808 ≤ l) (l1 : l ≤ 9223372036854775807) (hk1 : 1 ≤ keys c l) (hx : exactB c l = false) :
    Calls Try.prog 3 #[.agg #[.int .i64 c.bt, .int .i64 c.rw, .int .i64 c.wd, .int .i64 c.md, .int .u64 c.sd], .int .i64 l] w fun e w' => e = .returned (.bool true) ∧ Below w.heap.size w w' := by
  have CN := Lib.hid (fun w => vnew_S c l w h l0 l1 hk1 hx)
  have CX := Lib.hid (fun w => rexact_any c l w h l0 l1)
  have CK := Lib.hid (fun w => rkeys_any c l w h l0 l1)
  rw [hx] at CX
  have hkb := keys_bd c l
  obtain ⟨n, hn⟩ : ∃ n : Int, keys c l = n := ⟨_, rfl⟩
  rw [hn] at CK hk1
  have hnb : (n == 0) = false := by simp; omega
  have hr := (keys_pos.1 (by rw [hn]; exact hk1)).1
  have hrw := rws_bd hr
  have hwd := wds_bd hr
  have hq9 : rws c * wds c ≤ 1024 := Nat.mul_le_mul hrw.2.1 hwd.2.1
  have hmu : c.rw * c.wd = ((rws c * wds c : Nat) : Int) := by rw [← hrw.2.2, ← hwd.2.2]; simp
  obtain ⟨Q, hQ⟩ : ∃ Q, rws c * wds c = Q := ⟨_, rfl⟩
  rw [hQ] at hmu hq9
  have hm1 : IntKind.i64.wrap (c.rw * c.wd) = Q := by rw [hmu]; exact IntWalk.i64_in _ ⟨by omega, by omega⟩
  have hm2 : wrap64 (c.rw * c.wd) = Q := by rw [hmu]; exact IntWalk.wrap64_in _ ⟨by omega, by omega⟩
  have CL : Hid (∀ p F w, SK w p F c l (zerosL (rws c) (wds c)) → Calls Try.prog 29 #[.pointer (some p)] w fun e w' => ∃ (g cap : Nat), e = .returned (.slice (some ⟨g, 0, none⟩) Q cap) ∧ Below w.heap.size w w') := Lib.hid (fun p F w h => (scells_mid p F c l _ w h).mono (fun e w' ⟨g, cap, e1, _, _, _, _, e2⟩ => ⟨g, cap, by rw [hQ] at e1; exact e1, e2⟩))
  have HBX : Hid (Have w (w.alloc (.cells #[.int .i64 c.bt, .int .i64 c.rw, .int .i64 c.wd, .int .i64 c.md, .int .u64 c.sd] 24)) [boxT w.heap.size 24 #[.int .i64 c.bt, .int .i64 c.rw, .int .i64 c.wd, .int .i64 c.md, .int .u64 c.sd]]) := Lib.hid (box_new w _ _)
  clear hx h hk1 hn hkb hr hrw hwd hq9 hmu hQ
  have nCells := naS_Cells
  have nConfig := naS_Config
  have nLevel := naS_Level
  go_enter Try.func3, Try.ntmps3
  go_upto_region 12 with (first
    | (go_at_call 9; (with_reducible refine (vmust_S p _).mono ?_); rintro e w6 ⟨rfl, hb⟩; have HV6 := Lib.hid (HV5.out.up hb); clear hb; clear c0 c1 c2 c3 c4; obtain ⟨c0, c1, c2, c3, c4⟩ := box5 HV6.out.i1)
    | (go_at_call 8; (with_reducible refine (CX.out _).mono ?_); rintro e w5 ⟨rfl, hb⟩; have HV5 := Lib.hid (HV4.out.up hb); clear hb; clear c0 c1 c2 c3 c4; obtain ⟨c0, c1, c2, c3, c4⟩ := box5 HV5.out.i1)
    | (go_at_call 7; (with_reducible refine (vas_S p _).mono ?_); rintro e w4 ⟨rfl, hb⟩; have HV4 := Lib.hid (HV3.out.up hb); clear hb; clear c0 c1 c2 c3 c4; obtain ⟨c0, c1, c2, c3, c4⟩ := box5 HV4.out.i1)
    | (go_at_call 6; (with_reducible refine (CK.out _).mono ?_); rintro e w3 ⟨rfl, hb⟩; have HV3 := Lib.hid (HV2.out.up hb); clear hb; clear c0 c1 c2 c3 c4; obtain ⟨c0, c1, c2, c3, c4⟩ := box5 HV3.out.i1)
    | (go_at_call 5; (with_reducible refine (CN.out _).mono ?_); rintro e w2 ⟨p, F, rfl, h1, h2, hb⟩; have HV2 := Lib.hid (HV1.out.push (skT p F c l (zerosL (rws c) (wds c))) hb h1 h2); clear h1 h2 hb; clear c0 c1 c2 c3 c4; obtain ⟨c0, c1, c2, c3, c4⟩ := box5 HV2.out.i1)
    | (go_at_call 4; (with_reducible refine (shown_any _).mono ?_); rintro e w1 ⟨rfl, hb⟩; have HV1 := Lib.hid (HBX.out.up hb); clear hb; obtain ⟨c0, c1, c2, c3, c4⟩ := box5 HV1.out.i0))
  go_region_held3 (fun w' => w'.cell? ⟨w.heap.size, 0, none⟩ = some (.int .i64 c.bt) ∧ w'.cell? ⟨w.heap.size, 1, none⟩ = some (.int .i64 c.rw) ∧ w'.cell? ⟨w.heap.size, 2, none⟩ = some (.int .i64 c.wd) ∧ w'.cell? ⟨w.heap.size, 3, none⟩ = some (.int .i64 c.md) ∧ w'.cell? ⟨w.heap.size, 4, none⟩ = some (.int .u64 c.sd)) (first | (refine ⟨?_, ?_, ?_, ?_, ?_⟩ <;> (first | (with_reducible assumption) | (with_reducible refine cell_up c0 ?_) | (with_reducible refine cell_up c1 ?_) | (with_reducible refine cell_up c2 ?_) | (with_reducible refine cell_up c3 ?_) | (with_reducible refine cell_up c4 ?_)) <;> (repeat' (first | (with_reducible exact Below.refl _ _) | (with_reducible assumption) | (with_reducible refine below_over ?_ _ _) | (with_reducible refine Lw.below_alloc ?_ _) | (with_reducible refine Below.drew ?_) | (with_reducible refine below_drewN ?_ _) | (with_reducible refine Below.setCell ?_ ?_ _) | go_size)))) (first
    | (go_at_call 29; (with_reducible refine (CL.out p F _ (skI (HV6.out.up (by repeat' (first | (with_reducible exact Below.refl _ _) | (with_reducible assumption) | (with_reducible refine below_over ?_ _ _) | (with_reducible refine Lw.below_alloc ?_ _) | (with_reducible refine Below.drew ?_) | (with_reducible refine below_drewN ?_ _) | (with_reducible refine Below.setCell ?_ ?_ _) | go_size))).i0)).mono ?_); rintro e w7 ⟨g, cap, rfl, hb⟩; obtain ⟨bs7, d7, rfl⟩ := below_grow hb; clear hb)
    | (go_at_call 11; (with_reducible refine (sconfig_any p F c l _ _ (skI (HV6.out.up (by repeat' (first | (with_reducible exact Below.refl _ _) | (with_reducible assumption) | (with_reducible refine below_over ?_ _ _) | (with_reducible refine Lw.below_alloc ?_ _) | (with_reducible refine Below.drew ?_) | (with_reducible refine below_drewN ?_ _) | (with_reducible refine Below.setCell ?_ ?_ _) | go_size))).i0)).mono ?_); rintro e w8 ⟨rfl, hb⟩; obtain ⟨bs8, d8, rfl⟩ := below_grow hb; clear hb)
    | (go_at_call 10; (with_reducible refine (slevel_any p F c l _ _ (skI (HV6.out.up (by repeat' (first | (with_reducible exact Below.refl _ _) | (with_reducible assumption) | (with_reducible refine below_over ?_ _ _) | (with_reducible refine Lw.below_alloc ?_ _) | (with_reducible refine Below.drew ?_) | (with_reducible refine below_drewN ?_ _) | (with_reducible refine Below.setCell ?_ ?_ _) | go_size))).i0)).mono ?_); rintro e w9 ⟨rfl, hb⟩; obtain ⟨bs9, d9, rfl⟩ := below_grow hb; clear hb))
  all_goals go_wp2
  all_goals go_ret
  all_goals exact ⟨ret_bs (by first | rfl | (simp [*]; done)), (HV6.out.up (by repeat' (first | (with_reducible exact Below.refl _ _) | (with_reducible assumption) | (with_reducible refine below_over ?_ _ _) | (with_reducible refine Lw.below_alloc ?_ _) | (with_reducible refine Below.drew ?_) | (with_reducible refine below_drewN ?_ _) | (with_reducible refine Below.setCell ?_ ?_ _) | go_size))).below⟩
theorem makes_law (c : Cfg) (l : Int) (w : World) (h : c.Ok) (hl : -9223372036854775808 ≤ l ∧ l ≤ 9223372036854775807) :
    Calls Try.prog 3 #[.agg #[.int .i64 c.bt, .int .i64 c.rw, .int .i64 c.wd, .int .i64 c.md, .int .u64 c.sd], .int .i64 l] w fun e w' => e = .returned (.bool true) ∧ Below w.heap.size w w' := by
  have hb := keys_bd c l
  by_cases hk : keys c l = 0
  · exact makes_N c l w h hl.1 hl.2 hk
  · cases hx : exactB c l with
    | true => exact makes_A c l w h hl.1 hl.2 hx
    | false => exact makes_S c l w h hl.1 hl.2 (by omega) hx
namespace levelMakes
open Go.ChangeShapes Go.WideShapes Go.ChangeAt Go.Joins
set_option maxRecDepth 100000 in
theorem lifted (os : Os) (started : os.Started) (H : Type) (enc : TypeId × Value → H) :
    ReturnsInHanded {} Try.checked os 3 .any (Rows.levelMakesSpec.pre6 enc Try.prog Try.f3 Rows.levelMakesRow.domain false) (Rows.levelMakesSpec.post enc Try.prog Try.f3 false true false false) := by
  refine Lw.lifted (C := Try.checked) (B := 4) (by kernel_rfl) os started (by kernel_rfl) Try.func3
    (ChangeSpec.witness6 (enc := enc) (C := Try.checked) false ⟨#[], #[.agg #[.int .i64 0, .int .i64 0, .int .i64 0, .int .i64 0, .int .u64 0], .int .i64 0], []⟩ 8 (by kernel_rfl) (by kernel_rfl) (by kernel_rfl) (by kernel_rfl)) rfl Try.underlying4 (by kernel_rfl) (by kernel_rfl) (by kernel_rfl) ?_ ?_
  · intro ds h
    rw [Try.params3] at h
    match ds, h with
    | [_, _], _ => rfl
  · intro W base args ds p hval hA
    rw [Try.params3] at hA hval
    obtain ⟨v0, vs0, d0, ds0, p0, q0, hargs, rfl, rfl, h0, r0⟩ := trodAll_cons hA
    obtain ⟨v1, vs1, d1, ds1, p1, q1, rfl, rfl, rfl, h1, r1⟩ := trodAll_cons r0
    obtain ⟨rfl, rfl, rfl⟩ := trodAll_nil r1
    obtain rfl : args = #[v0, v1] := by cases args; simp_all
    obtain ⟨x0_0, x0_1, x0_2, x0_3, x0_4, rfl, z0_0, z0_1, z0_2, z0_3, z0_4⟩ := open_cfg (hval 0 24 v0 rfl rfl) h0
    obtain ⟨a1, rfl, rfl, rfl, w1⟩ := open_int Try.underlying3 (hval 1 3 v1 rfl rfl) h1
    have b1 := Lw.wf_i64 w1
    exact makes_law ⟨x0_0, x0_1, x0_2, x0_3, x0_4⟩ a1 W ⟨z0_0.1, z0_0.2, z0_1.1, z0_1.2, z0_2.1, z0_2.2, z0_3.1, z0_3.2, z0_4.1, z0_4.2⟩ b1
theorem over : Rows.levelMakesRow.holds Try.pinned (OpenSpec.ofChange Rows.levelMakesSpec) :=
  OpenClaim.holds_of_wide 3 Try.f3 rfl rfl rfl rfl rfl rfl rfl ⟨rfl, rfl, rfl, rfl, rfl⟩ rfl rfl rfl rfl rfl (by kernel_rfl) Try.func3 (by kernel_rfl)
    (of_decide_eq_true (by kernel_rfl)) (by unfold Func.isWrapper; first | (rw [if_pos (by decide +kernel)]; kernel_rfl) | (rw [if_neg (by decide +kernel)]; exact ⟨rfl, rfl⟩))
    (fun os started H enc _ => lifted os started H enc)
theorem proved : Rows.LevelMakesSaid :=
  over
#print axioms proved
end levelMakes
end Go.Proofs.Ytkannodfamnmcaa.Lev
