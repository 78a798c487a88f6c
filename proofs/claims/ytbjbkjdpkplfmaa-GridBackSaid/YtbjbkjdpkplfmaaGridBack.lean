/- The statement GridBack of layer 6 holds. Printed by wip/gen/grdlaws.py. -/
import Derived.Test.YtbjbkjdpkplfmaaGrdLawA
import Derived.Test.YtbjbkjdpkplfmaaLaw
import Derived.Deep.LoopGhost
import Derived.Deep.RegionHeld3
import Derived.Deep.DeepCutAuto
import Derived.Deep.QuietTactic
import Derived.BigQuiet
namespace Go.Proofs.Ytbjbkjdpkplfmaa.Grd
open Go Go.RowKit Lw
set_option linter.unusedVariables false
set_option linter.unusedSimpArgs false
set_option maxRecDepth 100000 in
set_option maxHeartbeats 4000000 in
theorem back_no (rows width : Int) (r0 : -9223372036854775808 ≤ rows) (r1 : rows ≤ 9223372036854775807) (c0 : -9223372036854775808 ≤ width) (c1 : width ≤ 9223372036854775807) (A2 : Option Addr) (n2 c2 : Nat) (qs2 : List (Int × Int × Int)) (x3 : Int) (y0 : -9223372036854775808 ≤ x3) (y1 : x3 ≤ 9223372036854775807) (A4 : Option Addr) (n4 c4 : Nat) (qs4 : List (Int × Int × Int)) (hA2 : A2 = none → n2 = 0 ∧ c2 = 0) (hn2 : n2 ≤ c2) (hc2 : c2 ≤ maxLen) (hl2 : qs2.length = n2) (hA4 : A4 = none → n4 = 0 ∧ c4 = 0) (hn4 : n4 ≤ c4) (hc4 : c4 ≤ maxLen) (hl4 : qs4.length = n4) (L M : List (List Int)) (w : World) (hLq : puts (zerosL (cl rows 8) (cl width 128)) (qs2.take 200) = L) (hMq : puts (zerosL (cl rows 8) (cl width 128)) (qs4.take 200) = M) (hfit : fitsAll (gridS 1 L M) = false) (hq2 : Puts w A2 qs2) (hq4 : Puts w A4 qs4) :
    Calls Try.prog 5 #[.agg #[.int .i64 rows, .int .i64 width, .slice A2 n2 c2, .int .i64 x3, .slice A4 n4 c4]] w fun e w' => e = .returned (.bool true) ∧ Below w.heap.size w w' := by
  have HQ2 := Lib.hid hq2
  have HQ4 := Lib.hid hq4
  have HA2 := Lib.hid hA2
  have HA4 := Lib.hid hA4
  clear hq2 hq4 hA2 hA4
  unfold maxLen at hc2 hc4
  obtain ⟨m, hm⟩ : ∃ m, cl rows 8 = m := ⟨_, rfl⟩
  obtain ⟨n, hn⟩ : ∃ n, cl width 128 = n := ⟨_, rfl⟩
  have hm8 : m ≤ 8 := by rw [← hm]; unfold cl; omega
  have hn128 : n ≤ 128 := by rw [← hn]; unfold cl; omega
  have hmn : m * n ≤ 1024 := Nat.mul_le_mul hm8 hn128
  rw [hm, hn] at hLq hMq
  have HLQ := Lib.hid hLq
  have HMQ := Lib.hid hMq
  have hdl := puts_ok hm8 hn128 HQ2.out hLq
  have hdm := puts_ok hm8 hn128 HQ4.out hMq
  have HFL : Hid (L.flatten.length = m * n) := Lib.hid (flat_dims hdl)
  clear hLq hMq
  have HM := Lib.hid hm
  have HN := Lib.hid hn
  clear hm hn
  obtain ⟨j1, j2⟩ := jcode_no (m := m) (n := n) hfit
  have HJ2 := Lib.hid j2
  clear j2 hdl hdm
  go_enter Try.func5, Try.ntmps5
  go_wp2_with (first
    | (go_at_call_of 18 (Value.slice A8 (m * n) cap8); (with_reducible refine (rsame_any A8 A7 (m * n) (m * n) cap8 cap7 L.flatten L.flatten _ (rw0 (HV5.out.up (by repeat' (first | (with_reducible exact Below.refl _ _) | (with_reducible assumption) | (with_reducible exact HBW.out) | (with_reducible refine below_over ?_ _ _) | (with_reducible refine Lw.below_alloc ?_ _) | (with_reducible refine Below.drew ?_) | (with_reducible refine below_drewN ?_ _) | (with_reducible refine Below.setCell ?_ ?_ _) | go_size)))).rd (rw1 (HV5.out.up (by repeat' (first | (with_reducible exact Below.refl _ _) | (with_reducible assumption) | (with_reducible exact HBW.out) | (with_reducible refine below_over ?_ _ _) | (with_reducible refine Lw.below_alloc ?_ _) | (with_reducible refine Below.drew ?_) | (with_reducible refine below_drewN ?_ _) | (with_reducible refine Below.setCell ?_ ?_ _) | go_size)))).rd HFL.out HFL.out (by omega) (by omega)).mono ?_); rintro e w' ⟨rfl, hb⟩; have HV6 := Lib.hid (HV5.out.up hb); clear hb)
    | (go_at_call 19; (with_reducible refine (cells_any p F6 m n L _ (pg2 (HV4.out.up (by repeat' (first | (with_reducible exact Below.refl _ _) | (with_reducible assumption) | (with_reducible exact HBW.out) | (with_reducible refine below_over ?_ _ _) | (with_reducible refine Lw.below_alloc ?_ _) | (with_reducible refine Below.drew ?_) | (with_reducible refine below_drewN ?_ _) | (with_reducible refine Below.setCell ?_ ?_ _) | go_size))))).mono ?_); rintro e w' ⟨A8, cap8, rfl, hr, hc8, hd8, hn, hb⟩; have HV5 := Lib.hid ((HV4.out.up (by repeat' (first | (with_reducible exact Below.refl _ _) | (with_reducible assumption) | (with_reducible exact HBW.out) | (with_reducible refine below_over ?_ _ _) | (with_reducible refine Lw.below_alloc ?_ _) | (with_reducible refine Below.drew ?_) | (with_reducible refine below_drewN ?_ _) | (with_reducible refine Below.setCell ?_ ?_ _) | go_size))).push (rowT A8 L.flatten) hb hr (fun k hk => by obtain ⟨a, ha, rfl⟩ := hk; exact hn a ha)); clear hr hn hb)
    | (go_at_call 24; (with_reducible refine (plus_any p Fp m n L h Fh m n M _ (pg2 (HV3.out.up (by repeat' (first | (with_reducible exact Below.refl _ _) | (with_reducible assumption) | (with_reducible exact HBW.out) | (with_reducible refine below_over ?_ _ _) | (with_reducible refine Lw.below_alloc ?_ _) | (with_reducible refine Below.drew ?_) | (with_reducible refine below_drewN ?_ _) | (with_reducible refine Below.setCell ?_ ?_ _) | go_size)))) (pg1 (HV3.out.up (by repeat' (first | (with_reducible exact Below.refl _ _) | (with_reducible assumption) | (with_reducible exact HBW.out) | (with_reducible refine below_over ?_ _ _) | (with_reducible refine Lw.below_alloc ?_ _) | (with_reducible refine Below.drew ?_) | (with_reducible refine below_drewN ?_ _) | (with_reducible refine Below.setCell ?_ ?_ _) | go_size)))) (ap21 HV3.out)).mono ?_); rintro e w' ⟨rfl, F6, hnp, hnk, hnf⟩; rw [HJ2.out] at hnp; have HV4 := Lib.hid (Have.turn2 (HV3.out.up (by repeat' (first | (with_reducible exact Below.refl _ _) | (with_reducible assumption) | (with_reducible exact HBW.out) | (with_reducible refine below_over ?_ _ _) | (with_reducible refine Lw.below_alloc ?_ _) | (with_reducible refine Below.drew ?_) | (with_reducible refine below_drewN ?_ _) | (with_reducible refine Below.setCell ?_ ?_ _) | go_size))) (pgT p F6 m n L) hnp hnk hnf); clear hnp hnk hnf)
    | (go_at_call 19; (with_reducible refine (cells_any p Fp m n L _ (pg1 (HV2.out.up (by repeat' (first | (with_reducible exact Below.refl _ _) | (with_reducible assumption) | (with_reducible exact HBW.out) | (with_reducible refine below_over ?_ _ _) | (with_reducible refine Lw.below_alloc ?_ _) | (with_reducible refine Below.drew ?_) | (with_reducible refine below_drewN ?_ _) | (with_reducible refine Below.setCell ?_ ?_ _) | go_size))))).mono ?_); rintro e w' ⟨A7, cap7, rfl, hr, hc7, hd7, hn, hb⟩; have HV3 := Lib.hid ((HV2.out.up (by repeat' (first | (with_reducible exact Below.refl _ _) | (with_reducible assumption) | (with_reducible exact HBW.out) | (with_reducible refine below_over ?_ _ _) | (with_reducible refine Lw.below_alloc ?_ _) | (with_reducible refine Below.drew ?_) | (with_reducible refine below_drewN ?_ _) | (with_reducible refine Below.setCell ?_ ?_ _) | go_size))).push (rowT A7 L.flatten) hb hr (fun k hk => by obtain ⟨a, ha, rfl⟩ := hk; exact hn a ha)); clear hr hn hb)
    | (go_at_call 21; (with_reducible refine (made_at rows width (by omega) (by omega) (by omega) (by omega) A4 n4 c4 qs4 M _ HA4.out hn4 (by unfold maxLen; omega) hl4 (HQ4.out.up (HBHV1.out)) m n HM.out HN.out HMQ.out).mono ?_); rintro e w' ⟨h, s, Fh, Gs, rfl, hj⟩; have hj2 := HV1.out.join hj; simp only [List.cons_append, List.nil_append] at hj2; have HV2 := Lib.hid (hj2.drop); have HBHV2 := Lib.hid HV2.out.below; clear hj hj2)
    | (go_at_call 21; (with_reducible refine (made_at rows width (by omega) (by omega) (by omega) (by omega) A2 n2 c2 qs2 L _ HA2.out hn2 (by unfold maxLen; omega) hl2 (HQ2.out.up (HBHV0.out)) m n HM.out HN.out HLQ.out).mono ?_); rintro e w' ⟨p, q, Fp, Gq, rfl, hj⟩; have hj2 := HV0.out.join hj; simp only [List.cons_append, List.nil_append] at hj2; have HV1 := Lib.hid (hj2.drop); have HBHV1 := Lib.hid HV1.out.below; clear hj hj2; have fHV1_0 := bx1 HV1.out (i := 0) rfl; have fHV1_1 := bx1 HV1.out (i := 1) rfl; have fHV1_2 := bx1 HV1.out (i := 2) rfl; have fHV1_3 := bx1 HV1.out (i := 3) rfl; have fHV1_4 := bx1 HV1.out (i := 4) rfl)
    | (go_at_call 9; (with_reducible refine (shown_any _).mono ?_); rintro e w' ⟨rfl, hb⟩; have HV0 := Lib.hid ((box_new w _ _).up hb); have HBHV0 := Lib.hid HV0.out.below; clear hb; have fHV0_0 := bx0 HV0.out (i := 0) rfl; have fHV0_1 := bx0 HV0.out (i := 1) rfl; have fHV0_2 := bx0 HV0.out (i := 2) rfl; have fHV0_3 := bx0 HV0.out (i := 3) rfl; have fHV0_4 := bx0 HV0.out (i := 4) rfl))
  all_goals go_ret
  all_goals exact ⟨ret_b (by first | rfl | (simp [*]; done)), HV6.out.below⟩
set_option maxRecDepth 100000 in
set_option maxHeartbeats 4000000 in
theorem back_yes (rows width : Int) (r0 : -9223372036854775808 ≤ rows) (r1 : rows ≤ 9223372036854775807) (c0 : -9223372036854775808 ≤ width) (c1 : width ≤ 9223372036854775807) (A2 : Option Addr) (n2 c2 : Nat) (qs2 : List (Int × Int × Int)) (x3 : Int) (y0 : -9223372036854775808 ≤ x3) (y1 : x3 ≤ 9223372036854775807) (A4 : Option Addr) (n4 c4 : Nat) (qs4 : List (Int × Int × Int)) (hA2 : A2 = none → n2 = 0 ∧ c2 = 0) (hn2 : n2 ≤ c2) (hc2 : c2 ≤ maxLen) (hl2 : qs2.length = n2) (hA4 : A4 = none → n4 = 0 ∧ c4 = 0) (hn4 : n4 ≤ c4) (hc4 : c4 ≤ maxLen) (hl4 : qs4.length = n4) (L M : List (List Int)) (w : World) (hLq : puts (zerosL (cl rows 8) (cl width 128)) (qs2.take 200) = L) (hMq : puts (zerosL (cl rows 8) (cl width 128)) (qs4.take 200) = M) (hfit : fitsAll (gridS 1 L M) = true) (hq2 : Puts w A2 qs2) (hq4 : Puts w A4 qs4) :
    Calls Try.prog 5 #[.agg #[.int .i64 rows, .int .i64 width, .slice A2 n2 c2, .int .i64 x3, .slice A4 n4 c4]] w fun e w' => e = .returned (.bool true) ∧ Below w.heap.size w w' := by
  have HQ2 := Lib.hid hq2
  have HQ4 := Lib.hid hq4
  have HA2 := Lib.hid hA2
  have HA4 := Lib.hid hA4
  clear hq2 hq4 hA2 hA4
  unfold maxLen at hc2 hc4
  obtain ⟨m, hm⟩ : ∃ m, cl rows 8 = m := ⟨_, rfl⟩
  obtain ⟨n, hn⟩ : ∃ n, cl width 128 = n := ⟨_, rfl⟩
  have hm8 : m ≤ 8 := by rw [← hm]; unfold cl; omega
  have hn128 : n ≤ 128 := by rw [← hn]; unfold cl; omega
  have hmn : m * n ≤ 1024 := Nat.mul_le_mul hm8 hn128
  rw [hm, hn] at hLq hMq
  have HLQ := Lib.hid hLq
  have HMQ := Lib.hid hMq
  have hdl := puts_ok hm8 hn128 HQ2.out hLq
  have hdm := puts_ok hm8 hn128 HQ4.out hMq
  have HFL : Hid (L.flatten.length = m * n) := Lib.hid (flat_dims hdl)
  clear hLq hMq
  have HM := Lib.hid hm
  have HN := Lib.hid hn
  clear hm hn
  obtain ⟨j1, j2⟩ := jcode_yes (m := m) (n := n) hfit
  obtain ⟨J, hJ⟩ : ∃ J, gridS 1 L M = J := ⟨_, rfl⟩
  rw [hJ] at j2
  have hdj : Dims m n J := by rw [← hJ]; exact hdl.join hdm hfit
  have hb1 : gridS (-1) J M = L := by rw [← hJ]; exact back_dims hdl hdm
  obtain ⟨j3, j4⟩ := jcode_yes (s := -1) (m := m) (n := n) (L := J) (M := M) (by rw [hb1]; exact fits_dims hdl)
  rw [hb1] at j4
  have hb2 := self_dims hdl
  obtain ⟨j5, j6⟩ := jcode_yes (s := -1) (m := m) (n := n) (L := L) (M := L) (by rw [hb2]; exact fits_dims (dims_zeros hm8 hn128))
  rw [hb2] at j6
  have HJ2 := Lib.hid j2
  have HJ4 := Lib.hid j4
  have HJ6 := Lib.hid j6
  have HFZ : Hid ((zerosL m n).flatten.length = m * n) := Lib.hid (flat_dims (dims_zeros hm8 hn128))
  clear j2 j4 j6 hb1 hb2 hJ hdl hdm hdj hfit
  go_enter Try.func5, Try.ntmps5
  go_wp2_with (first
    | (go_at_call 19; (with_reducible refine (cells_any p F8 m n (zerosL m n) _ (pg3 (HV8.out.up (by repeat' (first | (with_reducible exact Below.refl _ _) | (with_reducible assumption) | (with_reducible exact HBW.out) | (with_reducible refine below_over ?_ _ _) | (with_reducible refine Lw.below_alloc ?_ _) | (with_reducible refine Below.drew ?_) | (with_reducible refine below_drewN ?_ _) | (with_reducible refine Below.setCell ?_ ?_ _) | go_size))))).mono ?_); rintro e w' ⟨A9, cap9, rfl, hr, hc9, hd9, hn, hb⟩; have HV9 := Lib.hid ((HV8.out.up (by repeat' (first | (with_reducible exact Below.refl _ _) | (with_reducible assumption) | (with_reducible exact HBW.out) | (with_reducible refine below_over ?_ _ _) | (with_reducible refine Lw.below_alloc ?_ _) | (with_reducible refine Below.drew ?_) | (with_reducible refine below_drewN ?_ _) | (with_reducible refine Below.setCell ?_ ?_ _) | go_size))).push (rowT A9 (zerosL m n).flatten) hb hr (fun k hk => by obtain ⟨a, ha, rfl⟩ := hk; exact hn a ha)); clear hr hn hb)
    | (go_at_call 23; (with_reducible refine (minus_self p F7 m n L _ (pg3 (HV7.out.up (by repeat' (first | (with_reducible exact Below.refl _ _) | (with_reducible assumption) | (with_reducible exact HBW.out) | (with_reducible refine below_over ?_ _ _) | (with_reducible refine Lw.below_alloc ?_ _) | (with_reducible refine Below.drew ?_) | (with_reducible refine below_drewN ?_ _) | (with_reducible refine Below.setCell ?_ ?_ _) | go_size))))).mono ?_); rintro e w' ⟨rfl, F8, hnp, hnk, hnf⟩; rw [HJ6.out] at hnp; have HV8 := Lib.hid (Have.turn3 (HV7.out.up (by repeat' (first | (with_reducible exact Below.refl _ _) | (with_reducible assumption) | (with_reducible exact HBW.out) | (with_reducible refine below_over ?_ _ _) | (with_reducible refine Lw.below_alloc ?_ _) | (with_reducible refine Below.drew ?_) | (with_reducible refine below_drewN ?_ _) | (with_reducible refine Below.setCell ?_ ?_ _) | go_size))) (pgT p F8 m n (zerosL m n)) hnp hnk hnf); clear hnp hnk hnf)
    | (go_at_call_of 18 (Value.slice A8 (m * n) cap8); (with_reducible refine (rsame_any A8 A7 (m * n) (m * n) cap8 cap7 L.flatten L.flatten _ (rw0 (HV6.out.up (by repeat' (first | (with_reducible exact Below.refl _ _) | (with_reducible assumption) | (with_reducible exact HBW.out) | (with_reducible refine below_over ?_ _ _) | (with_reducible refine Lw.below_alloc ?_ _) | (with_reducible refine Below.drew ?_) | (with_reducible refine below_drewN ?_ _) | (with_reducible refine Below.setCell ?_ ?_ _) | go_size)))).rd (rw1 (HV6.out.up (by repeat' (first | (with_reducible exact Below.refl _ _) | (with_reducible assumption) | (with_reducible exact HBW.out) | (with_reducible refine below_over ?_ _ _) | (with_reducible refine Lw.below_alloc ?_ _) | (with_reducible refine Below.drew ?_) | (with_reducible refine below_drewN ?_ _) | (with_reducible refine Below.setCell ?_ ?_ _) | go_size)))).rd HFL.out HFL.out (by omega) (by omega)).mono ?_); rintro e w' ⟨rfl, hb⟩; have HV7 := Lib.hid (HV6.out.up hb); clear hb)
    | (go_at_call 19; (with_reducible refine (cells_any p F7 m n L _ (pg2 (HV5.out.up (by repeat' (first | (with_reducible exact Below.refl _ _) | (with_reducible assumption) | (with_reducible exact HBW.out) | (with_reducible refine below_over ?_ _ _) | (with_reducible refine Lw.below_alloc ?_ _) | (with_reducible refine Below.drew ?_) | (with_reducible refine below_drewN ?_ _) | (with_reducible refine Below.setCell ?_ ?_ _) | go_size))))).mono ?_); rintro e w' ⟨A8, cap8, rfl, hr, hc8, hd8, hn, hb⟩; have HV6 := Lib.hid ((HV5.out.up (by repeat' (first | (with_reducible exact Below.refl _ _) | (with_reducible assumption) | (with_reducible exact HBW.out) | (with_reducible refine below_over ?_ _ _) | (with_reducible refine Lw.below_alloc ?_ _) | (with_reducible refine Below.drew ?_) | (with_reducible refine below_drewN ?_ _) | (with_reducible refine Below.setCell ?_ ?_ _) | go_size))).push (rowT A8 L.flatten) hb hr (fun k hk => by obtain ⟨a, ha, rfl⟩ := hk; exact hn a ha)); clear hr hn hb)
    | (go_at_call 23; (with_reducible refine (minus_any p F6 m n J h Fh m n M _ (pg2 (HV4.out.up (by repeat' (first | (with_reducible exact Below.refl _ _) | (with_reducible assumption) | (with_reducible exact HBW.out) | (with_reducible refine below_over ?_ _ _) | (with_reducible refine Lw.below_alloc ?_ _) | (with_reducible refine Below.drew ?_) | (with_reducible refine below_drewN ?_ _) | (with_reducible refine Below.setCell ?_ ?_ _) | go_size)))) (pg1 (HV4.out.up (by repeat' (first | (with_reducible exact Below.refl _ _) | (with_reducible assumption) | (with_reducible exact HBW.out) | (with_reducible refine below_over ?_ _ _) | (with_reducible refine Lw.below_alloc ?_ _) | (with_reducible refine Below.drew ?_) | (with_reducible refine below_drewN ?_ _) | (with_reducible refine Below.setCell ?_ ?_ _) | go_size)))) (ap21 HV4.out)).mono ?_); rintro e w' ⟨rfl, F7, hnp, hnk, hnf⟩; rw [HJ4.out] at hnp; have HV5 := Lib.hid (Have.turn2 (HV4.out.up (by repeat' (first | (with_reducible exact Below.refl _ _) | (with_reducible assumption) | (with_reducible exact HBW.out) | (with_reducible refine below_over ?_ _ _) | (with_reducible refine Lw.below_alloc ?_ _) | (with_reducible refine Below.drew ?_) | (with_reducible refine below_drewN ?_ _) | (with_reducible refine Below.setCell ?_ ?_ _) | go_size))) (pgT p F7 m n L) hnp hnk hnf); clear hnp hnk hnf)
    | (go_at_call 24; (with_reducible refine (plus_any p Fp m n L h Fh m n M _ (pg2 (HV3.out.up (by repeat' (first | (with_reducible exact Below.refl _ _) | (with_reducible assumption) | (with_reducible exact HBW.out) | (with_reducible refine below_over ?_ _ _) | (with_reducible refine Lw.below_alloc ?_ _) | (with_reducible refine Below.drew ?_) | (with_reducible refine below_drewN ?_ _) | (with_reducible refine Below.setCell ?_ ?_ _) | go_size)))) (pg1 (HV3.out.up (by repeat' (first | (with_reducible exact Below.refl _ _) | (with_reducible assumption) | (with_reducible exact HBW.out) | (with_reducible refine below_over ?_ _ _) | (with_reducible refine Lw.below_alloc ?_ _) | (with_reducible refine Below.drew ?_) | (with_reducible refine below_drewN ?_ _) | (with_reducible refine Below.setCell ?_ ?_ _) | go_size)))) (ap21 HV3.out)).mono ?_); rintro e w' ⟨rfl, F6, hnp, hnk, hnf⟩; rw [HJ2.out] at hnp; have HV4 := Lib.hid (Have.turn2 (HV3.out.up (by repeat' (first | (with_reducible exact Below.refl _ _) | (with_reducible assumption) | (with_reducible exact HBW.out) | (with_reducible refine below_over ?_ _ _) | (with_reducible refine Lw.below_alloc ?_ _) | (with_reducible refine Below.drew ?_) | (with_reducible refine below_drewN ?_ _) | (with_reducible refine Below.setCell ?_ ?_ _) | go_size))) (pgT p F6 m n J) hnp hnk hnf); clear hnp hnk hnf)
    | (go_at_call 19; (with_reducible refine (cells_any p Fp m n L _ (pg1 (HV2.out.up (by repeat' (first | (with_reducible exact Below.refl _ _) | (with_reducible assumption) | (with_reducible exact HBW.out) | (with_reducible refine below_over ?_ _ _) | (with_reducible refine Lw.below_alloc ?_ _) | (with_reducible refine Below.drew ?_) | (with_reducible refine below_drewN ?_ _) | (with_reducible refine Below.setCell ?_ ?_ _) | go_size))))).mono ?_); rintro e w' ⟨A7, cap7, rfl, hr, hc7, hd7, hn, hb⟩; have HV3 := Lib.hid ((HV2.out.up (by repeat' (first | (with_reducible exact Below.refl _ _) | (with_reducible assumption) | (with_reducible exact HBW.out) | (with_reducible refine below_over ?_ _ _) | (with_reducible refine Lw.below_alloc ?_ _) | (with_reducible refine Below.drew ?_) | (with_reducible refine below_drewN ?_ _) | (with_reducible refine Below.setCell ?_ ?_ _) | go_size))).push (rowT A7 L.flatten) hb hr (fun k hk => by obtain ⟨a, ha, rfl⟩ := hk; exact hn a ha)); clear hr hn hb)
    | (go_at_call 21; (with_reducible refine (made_at rows width (by omega) (by omega) (by omega) (by omega) A4 n4 c4 qs4 M _ HA4.out hn4 (by unfold maxLen; omega) hl4 (HQ4.out.up (HBHV1.out)) m n HM.out HN.out HMQ.out).mono ?_); rintro e w' ⟨h, s, Fh, Gs, rfl, hj⟩; have hj2 := HV1.out.join hj; simp only [List.cons_append, List.nil_append] at hj2; have HV2 := Lib.hid (hj2.drop); have HBHV2 := Lib.hid HV2.out.below; clear hj hj2)
    | (go_at_call 21; (with_reducible refine (made_at rows width (by omega) (by omega) (by omega) (by omega) A2 n2 c2 qs2 L _ HA2.out hn2 (by unfold maxLen; omega) hl2 (HQ2.out.up (HBHV0.out)) m n HM.out HN.out HLQ.out).mono ?_); rintro e w' ⟨p, q, Fp, Gq, rfl, hj⟩; have hj2 := HV0.out.join hj; simp only [List.cons_append, List.nil_append] at hj2; have HV1 := Lib.hid (hj2.drop); have HBHV1 := Lib.hid HV1.out.below; clear hj hj2; have fHV1_0 := bx1 HV1.out (i := 0) rfl; have fHV1_1 := bx1 HV1.out (i := 1) rfl; have fHV1_2 := bx1 HV1.out (i := 2) rfl; have fHV1_3 := bx1 HV1.out (i := 3) rfl; have fHV1_4 := bx1 HV1.out (i := 4) rfl)
    | (go_at_call 9; (with_reducible refine (shown_any _).mono ?_); rintro e w' ⟨rfl, hb⟩; have HV0 := Lib.hid ((box_new w _ _).up hb); have HBHV0 := Lib.hid HV0.out.below; clear hb; have fHV0_0 := bx0 HV0.out (i := 0) rfl; have fHV0_1 := bx0 HV0.out (i := 1) rfl; have fHV0_2 := bx0 HV0.out (i := 2) rfl; have fHV0_3 := bx0 HV0.out (i := 3) rfl; have fHV0_4 := bx0 HV0.out (i := 4) rfl))
  have HRD : Hid (Rd .i64 w' A9 (zerosL m n).flatten) := Lib.hid (rw0 HV9.out).rd
  go_loop [13] (fun i => ∃ k : Nat, k ≤ m * n ∧ i = .int .i64 k) (fun i => m * n - (intOf i).toNat)
  case atStart => exact ⟨0, Nat.zero_le _, rfl⟩
  case round =>
    obtain ⟨k, hk, rfl⟩ := hrel
    by_cases hlt : k < m * n
    · obtain ⟨v, hv⟩ : ∃ v, (zerosL m n).flatten[k]? = some v := ⟨_, List.getElem?_eq_getElem (by rw [HFZ.out]; exact hlt)⟩
      have hv0 : v = 0 := zeros_flat v (List.mem_of_getElem? hv)
      subst hv0
      obtain ⟨ad, rfl, hc⟩ := HRD.out k 0 hv
      clear hv
      have hlt2 : (k : Int) < ((m * n : Nat) : Int) := by omega
      go_wp2
      go_round
      case rel => exact ⟨k + 1, by omega, by go_num⟩
      case measure => simp [intOf]; omega
    · have e : k = m * n := by omega
      subst e
      go_wp2
      go_ret
      exact ⟨ret_b (by first | rfl | (simp [*]; done)), HV9.out.below⟩
theorem back_any (rows width : Int) (r0 : -9223372036854775808 ≤ rows) (r1 : rows ≤ 9223372036854775807) (c0 : -9223372036854775808 ≤ width) (c1 : width ≤ 9223372036854775807) (A2 : Option Addr) (n2 c2 : Nat) (qs2 : List (Int × Int × Int)) (x3 : Int) (y0 : -9223372036854775808 ≤ x3) (y1 : x3 ≤ 9223372036854775807) (A4 : Option Addr) (n4 c4 : Nat) (qs4 : List (Int × Int × Int)) (hA2 : A2 = none → n2 = 0 ∧ c2 = 0) (hn2 : n2 ≤ c2) (hc2 : c2 ≤ maxLen) (hl2 : qs2.length = n2) (hA4 : A4 = none → n4 = 0 ∧ c4 = 0) (hn4 : n4 ≤ c4) (hc4 : c4 ≤ maxLen) (hl4 : qs4.length = n4) (w : World) (hq2 : Puts w A2 qs2) (hq4 : Puts w A4 qs4) :
    Calls Try.prog 5 #[.agg #[.int .i64 rows, .int .i64 width, .slice A2 n2 c2, .int .i64 x3, .slice A4 n4 c4]] w fun e w' => e = .returned (.bool true) ∧ Below w.heap.size w w' := by
  cases hf : fitsAll (gridS 1 (puts (zerosL (cl rows 8) (cl width 128)) (qs2.take 200)) (puts (zerosL (cl rows 8) (cl width 128)) (qs4.take 200)))
  · exact back_no rows width r0 r1 c0 c1 A2 n2 c2 qs2 x3 y0 y1 A4 n4 c4 qs4 hA2 hn2 hc2 hl2 hA4 hn4 hc4 hl4 _ _ w rfl rfl hf hq2 hq4
  · exact back_yes rows width r0 r1 c0 c1 A2 n2 c2 qs2 x3 y0 y1 A4 n4 c4 qs4 hA2 hn2 hc2 hl2 hA4 hn4 hc4 hl4 _ _ w rfl rfl hf hq2 hq4
namespace gridBack
open Go.ChangeShapes Go.WideShapes Go.ChangeAt Go.Joins
set_option maxRecDepth 100000 in
theorem lifted (os : Os) (started : os.Started) (H : Type) (enc : TypeId × Value → H) :
    ReturnsInHanded {} Try.checked os 5 .any (Rows.gridBackSpec.pre6 enc Try.prog Try.f5 Rows.gridBackRow.domain false) (Rows.gridBackSpec.post enc Try.prog Try.f5 false true false false) := by
  refine Lw.lifted (C := Try.checked) (B := 4) (by kernel_rfl) os started (by kernel_rfl) Try.func5
    (ChangeSpec.witness6 (enc := enc) (C := Try.checked) false ⟨#[], #[.agg #[.int .i64 0, .int .i64 0, .slice none 0 0, .int .i64 0, .slice none 0 0]], []⟩ 8 (by kernel_rfl) (by kernel_rfl) (by kernel_rfl) (by kernel_rfl)) rfl Try.underlying4 (by kernel_rfl) (by kernel_rfl) (by kernel_rfl) ?_ ?_
  · intro ds h
    rw [Try.params5] at h
    match ds, h with
    | [_], _ => rfl
  · intro W base args ds p hval hA
    rw [Try.params5] at hA hval
    obtain ⟨v0, vs0, d0, ds0, p0, q0, hargs, rfl, rfl, h0, r0⟩ := trodAll_cons hA
    obtain ⟨rfl, rfl, rfl⟩ := trodAll_nil r0
    obtain rfl : args = #[v0] := by cases args; simp_all
    obtain ⟨x0, x1, A2, n2, c2, qs2, x3, A4, n4, c4, qs4, rfl, bx0, bx1, ⟨hA2, hn2, hc2, hl2, hq2⟩, bx3, ⟨hA4, hn4, hc4, hl4, hq4⟩⟩ := open_two (hval 0 38 v0 rfl rfl) h0
    exact back_any x0 x1 bx0.1 bx0.2 bx1.1 bx1.2 A2 n2 c2 qs2 x3 bx3.1 bx3.2 A4 n4 c4 qs4 hA2 hn2 hc2 hl2 hA4 hn4 hc4 hl4 W hq2 hq4
theorem over : Rows.gridBackRow.holds Try.pinned (OpenSpec.ofChange Rows.gridBackSpec) :=
  OpenClaim.holds_of_wide 5 Try.f5 rfl rfl rfl rfl rfl rfl rfl ⟨rfl, rfl, rfl, rfl, rfl⟩ rfl rfl rfl rfl rfl (by kernel_rfl) Try.func5 (by kernel_rfl)
    (of_decide_eq_true (by kernel_rfl)) (by unfold Func.isWrapper; first | (rw [if_pos (by decide +kernel)]; kernel_rfl) | (rw [if_neg (by decide +kernel)]; exact ⟨rfl, rfl⟩))
    (fun os started H enc _ => lifted os started H enc)
theorem proved : Rows.GridBackSaid :=
  over
#print axioms proved
end gridBack
end Go.Proofs.Ytbjbkjdpkplfmaa.Grd
