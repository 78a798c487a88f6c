/- The statement GridPlays of layer 6 holds. Printed by wip/gen/grdlaws.py. -/
import Derived.Test.YtbjbkjdpkplfmaaGrdLawA
import Derived.Test.YtbjbkjdpkplfmaaLaw
import Derived.Deep.LoopGhost
import Derived.Deep.RegionHeld3
import Derived.Deep.DeepCutAuto
import Derived.Deep.QuietTactic
import Derived.BigQuiet
namespace Go.Proofs.Ytbjbkjdpkplfmaa.Grd
open Go Go.RowKit Lw
set_option linter.unusedVariables false
set_option linter.unusedSimpArgs false
set_option maxRecDepth 100000 in
set_option maxHeartbeats 4000000 in
theorem plays_any (rows width : Int) (r0 : -9223372036854775808 ≤ rows) (r1 : rows ≤ 9223372036854775807) (c0 : -9223372036854775808 ≤ width) (c1 : width ≤ 9223372036854775807) (A : Option Addr) (N cap : Nat) (qs : List (Int × Int × Int)) (w : World) (hA : A = none → N = 0 ∧ cap = 0) (hN : N ≤ cap) (hcap : cap ≤ maxLen) (hl : qs.length = N) (hqs : Puts w A qs) :
    Calls Try.prog 3 #[.int .i64 rows, .int .i64 width, .slice A N cap] w fun e w' => e = .returned (.bool true) ∧ Below w.heap.size w w' := by
  have HQ := Lib.hid hqs
  have HL := Lib.hid hl
  unfold maxLen at hcap
  clear hqs hA
  obtain ⟨m, hm⟩ : ∃ m, cl rows 8 = m := ⟨_, rfl⟩
  obtain ⟨n, hn⟩ : ∃ n, cl width 128 = n := ⟨_, rfl⟩
  have hm8 : m ≤ 8 := by rw [← hm]; unfold cl; omega
  have hn128 : n ≤ 128 := by rw [← hn]; unfold cl; omega
  have hmn : m * n ≤ 1024 := Nat.mul_le_mul hm8 hn128
  have HM := Lib.hid hm
  have HN := Lib.hid hn
  clear hm hn
  obtain ⟨R1, hR1⟩ : ∃ R1 : Int, (if rows < 0 then 0 else rows) = R1 := ⟨_, rfl⟩
  obtain ⟨C1, hC1⟩ : ∃ C1 : Int, (if width < 0 then 0 else width) = C1 := ⟨_, rfl⟩
  have hR2 : (if (8 : Int) < R1 then 8 else R1) = (m : Int) := by have := HM.out; unfold cl at this; rw [← hR1]; split <;> split at * <;> omega
  have hC2 : (if (128 : Int) < C1 then 128 else C1) = (n : Int) := by have := HN.out; unfold cl at this; rw [← hC1]; split <;> split at * <;> omega
  go_enter Try.func3, Try.ntmps3
  go_wp2_with (first
    | (go_at_call 11; (with_reducible refine (dnew_mn rows width m n _ HM.out HN.out (by omega) (by omega) (by omega) (by omega)).mono ?_); rintro e w' ⟨q0, G0, rfl, hnp, hnf, hnb⟩; have HV2 := Lib.hid ((HV1.out.up (by repeat' (first | (with_reducible exact Below.refl _ _) | (with_reducible assumption) | (with_reducible exact HBW.out) | (with_reducible refine below_over ?_ _ _) | (with_reducible refine Lw.below_alloc ?_ _) | (with_reducible refine Below.drew ?_) | (with_reducible refine below_drewN ?_ _) | (with_reducible refine Below.setCell ?_ ?_ _) | go_size))).push (dgT q0 G0 m n (zerosL m n)) hnb hnp hnf); clear hnp hnf hnb)
    | (go_at_call 10; (with_reducible refine (new_mn (rows) (width) m n _ HM.out HN.out (by omega) (by omega) (by omega) (by omega)).mono ?_); rintro e w' ⟨p, F0, rfl, hnp, hnf, hnb⟩; have HV1 := Lib.hid (((HV0.out.up (by repeat' (first | (with_reducible exact Below.refl _ _) | (with_reducible assumption) | (with_reducible exact HBW.out) | (with_reducible refine below_over ?_ _ _) | (with_reducible refine Lw.below_alloc ?_ _) | (with_reducible refine Below.drew ?_) | (with_reducible refine below_drewN ?_ _) | (with_reducible refine Below.setCell ?_ ?_ _) | go_size)))).push (pgT p F0 m n (zerosL m n)) hnb hnp hnf); clear hnp hnf hnb)
    | (go_at_call 9; (with_reducible refine (shown_any _).mono ?_); rintro e w' ⟨rfl, hb⟩; have HV0 := Lib.hid (Have.start hb); clear hb))
  go_loopw [10] (fun i wr => ∃ (k : Nat) (F G : Nat → Prop), k ≤ N ∧ k ≤ 200 ∧ i = .int .i64 k ∧ Have w wr [dgT q0 G m n (puts (zerosL m n) (qs.take k)), pgT p F m n (puts (zerosL m n) (qs.take k))]) (fun i _ => 200 - (intOf i).toNat)
  case atStart => exact ⟨0, F0, G0, by omega, by omega, rfl, HV2.out⟩
  case round =>
    obtain ⟨k, F1, G1, hkn, hk2, rfl, hhv⟩ := hrel
    have HV3 := Lib.hid hhv
    have HBW := Lib.hid hhv.below
    clear hhv
    by_cases hlt : k < N ∧ k < 200
    · obtain ⟨hlt1, hlt2⟩ := hlt
      have hkl : k < qs.length := by omega
      obtain ⟨q, hq⟩ : ∃ q, qs[k]? = some q := ⟨_, List.getElem?_eq_getElem hkl⟩
      obtain ⟨x, y, z⟩ := q
      obtain ⟨a, g, o, rfl, hadd, c1, c2, c3, bx, by', bz⟩ := HQ.out.at hq
      have HNX := Lib.hid (puts_next (zerosL m n) qs k (x, y, z) hq)
      simp only at HNX
      obtain ⟨Lk, hLk⟩ : ∃ Lk, puts (zerosL m n) (qs.take k) = Lk := ⟨_, rfl⟩
      rw [hLk] at HV3 HNX
      clear hq hLk
      go_wp2
      go_region_held3 (fun w' => w'.cell? ⟨g, o, none⟩ = some (.int .i64 x) ∧ w'.cell? ⟨g, o + 1, none⟩ = some (.int .i64 y) ∧ w'.cell? ⟨g, o + 2, none⟩ = some (.int .i64 z)) (first | (refine ⟨cell_up c1 ?_, cell_up c2 ?_, cell_up c3 ?_⟩ <;> (repeat' (first | (with_reducible exact Below.refl _ _) | (with_reducible assumption) | (with_reducible exact HBW.out) | (with_reducible exact HBX.out) | (with_reducible refine below_over ?_ _ _) | (with_reducible refine Lw.below_alloc ?_ _) | (with_reducible refine Below.drew ?_) | (with_reducible refine below_drewN ?_ _) | (with_reducible refine Below.setCell ?_ ?_ _) | go_size)))) (first
        | (go_at_call 12; (with_reducible refine (at_any p F1 m n Lk x y _ (pg1 (HV3.out.up (by repeat' (first | (with_reducible exact Below.refl _ _) | (with_reducible assumption) | (with_reducible exact HBW.out) | (with_reducible refine below_over ?_ _ _) | (with_reducible refine Lw.below_alloc ?_ _) | (with_reducible refine Below.drew ?_) | (with_reducible refine below_drewN ?_ _) | (with_reducible refine Below.setCell ?_ ?_ _) | go_size)))) (by omega) (by omega) (by omega) (by omega)).mono ?_); rintro e w' ⟨rfl, hb⟩; obtain ⟨bs, d, rfl⟩ := below_grow hb; clear hb))
      go_wp2
      go_region_held3 (fun w' => w'.cell? ⟨g, o, none⟩ = some (.int .i64 x) ∧ w'.cell? ⟨g, o + 1, none⟩ = some (.int .i64 y) ∧ w'.cell? ⟨g, o + 2, none⟩ = some (.int .i64 z)) (first | (refine ⟨cell_up c1 ?_, cell_up c2 ?_, cell_up c3 ?_⟩ <;> (repeat' (first | (with_reducible exact Below.refl _ _) | (with_reducible assumption) | (with_reducible exact HBW.out) | (with_reducible exact HBX.out) | (with_reducible refine below_over ?_ _ _) | (with_reducible refine Lw.below_alloc ?_ _) | (with_reducible refine Below.drew ?_) | (with_reducible refine below_drewN ?_ _) | (with_reducible refine Below.setCell ?_ ?_ _) | go_size)))) (first
        | (go_at_call 13; (with_reducible refine (put_any p F1 m n Lk x y z _ (pg1 (HV3.out.up (by repeat' (first | (with_reducible exact Below.refl _ _) | (with_reducible assumption) | (with_reducible exact HBW.out) | (with_reducible refine below_over ?_ _ _) | (with_reducible refine Lw.below_alloc ?_ _) | (with_reducible refine Below.drew ?_) | (with_reducible refine below_drewN ?_ _) | (with_reducible refine Below.setCell ?_ ?_ _) | go_size)))) (by omega) (by omega) (by omega) (by omega) (by omega) (by omega)).mono ?_); rintro e w' ⟨rfl, F4, hnp, hnk, hnf⟩; have HV4 := Lib.hid (Have.turn1 (HV3.out.up (by repeat' (first | (with_reducible exact Below.refl _ _) | (with_reducible assumption) | (with_reducible exact HBW.out) | (with_reducible refine below_over ?_ _ _) | (with_reducible refine Lw.below_alloc ?_ _) | (with_reducible refine Below.drew ?_) | (with_reducible refine below_drewN ?_ _) | (with_reducible refine Below.setCell ?_ ?_ _) | go_size))) (pgT p F4 m n (setL Lk x y z)) hnp hnk hnf); clear hnp hnk hnf; have HBX := Lib.hid HV4.out.below))
      go_wp2
      go_region_held3 (fun w' => w'.cell? ⟨g, o, none⟩ = some (.int .i64 x) ∧ w'.cell? ⟨g, o + 1, none⟩ = some (.int .i64 y) ∧ w'.cell? ⟨g, o + 2, none⟩ = some (.int .i64 z)) (first | (refine ⟨cell_up c1 ?_, cell_up c2 ?_, cell_up c3 ?_⟩ <;> (repeat' (first | (with_reducible exact Below.refl _ _) | (with_reducible assumption) | (with_reducible exact HBW.out) | (with_reducible exact HBX.out) | (with_reducible refine below_over ?_ _ _) | (with_reducible refine Lw.below_alloc ?_ _) | (with_reducible refine Below.drew ?_) | (with_reducible refine below_drewN ?_ _) | (with_reducible refine Below.setCell ?_ ?_ _) | go_size)))) (first
        | (go_at_call 14; (with_reducible refine (dat_any q0 G5 m n (setL Lk x y z) x y _ (dg0 (HV5.out.up (by repeat' (first | (with_reducible exact Below.refl _ _) | (with_reducible assumption) | (with_reducible exact HBW.out) | (with_reducible refine below_over ?_ _ _) | (with_reducible refine Lw.below_alloc ?_ _) | (with_reducible refine Below.drew ?_) | (with_reducible refine below_drewN ?_ _) | (with_reducible refine Below.setCell ?_ ?_ _) | go_size)))) (by omega) (by omega) (by omega) (by omega)).mono ?_); rintro e w' ⟨rfl, hb⟩; obtain ⟨bs, d, rfl⟩ := below_grow hb; clear hb)
        | (go_at_call 12; (with_reducible refine (at_any p F4 m n (setL Lk x y z) x y _ (pg1 (HV5.out.up (by repeat' (first | (with_reducible exact Below.refl _ _) | (with_reducible assumption) | (with_reducible exact HBW.out) | (with_reducible refine below_over ?_ _ _) | (with_reducible refine Lw.below_alloc ?_ _) | (with_reducible refine Below.drew ?_) | (with_reducible refine below_drewN ?_ _) | (with_reducible refine Below.setCell ?_ ?_ _) | go_size)))) (by omega) (by omega) (by omega) (by omega)).mono ?_); rintro e w' ⟨rfl, hb⟩; obtain ⟨bs, d, rfl⟩ := below_grow hb; clear hb)
        | (go_at_call 15; (with_reducible refine (dput_any q0 G1 m n Lk x y z _ (dg0 (HV4.out.up (by repeat' (first | (with_reducible exact Below.refl _ _) | (with_reducible assumption) | (with_reducible exact HBW.out) | (with_reducible refine below_over ?_ _ _) | (with_reducible refine Lw.below_alloc ?_ _) | (with_reducible refine Below.drew ?_) | (with_reducible refine below_drewN ?_ _) | (with_reducible refine Below.setCell ?_ ?_ _) | go_size)))) (by omega) (by omega) (by omega) (by omega) (by omega) (by omega)).mono ?_); rintro e w' ⟨rfl, G5, hnp, hnk, hnf⟩; have HV5 := Lib.hid (Have.turn0 (HV4.out.up (by repeat' (first | (with_reducible exact Below.refl _ _) | (with_reducible assumption) | (with_reducible exact HBW.out) | (with_reducible refine below_over ?_ _ _) | (with_reducible refine Lw.below_alloc ?_ _) | (with_reducible refine Below.drew ?_) | (with_reducible refine below_drewN ?_ _) | (with_reducible refine Below.setCell ?_ ?_ _) | go_size))) (dgT q0 G5 m n (setL Lk x y z)) hnp hnk hnf); clear hnp hnk hnf; have HBX := Lib.hid HV5.out.below)
        | (go_at_call 14; (with_reducible refine (dat_any q0 G1 m n Lk x y _ (dg0 (HV4.out.up (by repeat' (first | (with_reducible exact Below.refl _ _) | (with_reducible assumption) | (with_reducible exact HBW.out) | (with_reducible refine below_over ?_ _ _) | (with_reducible refine Lw.below_alloc ?_ _) | (with_reducible refine Below.drew ?_) | (with_reducible refine below_drewN ?_ _) | (with_reducible refine Below.setCell ?_ ?_ _) | go_size)))) (by omega) (by omega) (by omega) (by omega)).mono ?_); rintro e w' ⟨rfl, hb⟩; obtain ⟨bs, d, rfl⟩ := below_grow hb; clear hb))
      go_wp2
      go_roundw
      case rel => exact ⟨k + 1, F4, G5, by omega, by omega, by go_num, by rw [HNX.out]; exact HV5.out.up (by repeat' (first | (with_reducible exact Below.refl _ _) | (with_reducible assumption) | (with_reducible exact HBW.out) | (with_reducible refine below_over ?_ _ _) | (with_reducible refine Lw.below_alloc ?_ _) | (with_reducible refine Below.drew ?_) | (with_reducible refine below_drewN ?_ _) | (with_reducible refine Below.setCell ?_ ?_ _) | go_size))⟩
      case measure => simp [intOf]; omega
    · have hT : qs.take k = qs.take 200 := by
        by_cases h : k < N
        · have e : k = 200 := by omega
          rw [e]
        · have := HL.out
          rw [List.take_of_length_le (by omega), List.take_of_length_le (by omega)]
      rw [hT] at HV3
      have hd := puts_dims (dims_zeros (m := m) (n := n) hm8 hn128) (qs.take 200) (fun q hq => HQ.out.ok q (List.mem_of_mem_take hq))
      obtain ⟨Lz, hLz⟩ : ∃ Lz, puts (zerosL m n) (qs.take 200) = Lz := ⟨_, rfl⟩
      rw [hLz] at HV3 hd
      have HFL : Hid (Lz.flatten.length = m * n) := Lib.hid (flat_dims hd)
      clear hT hd hLz
      by_cases h : k < N
      · have e : k = 200 := by omega
        subst e
        go_wp2_with (first
          | (go_at_call 18; (with_reducible refine (rsame_any A9 (some A8) (m * n) (m * n) cap9 cap8 Lz.flatten Lz.flatten _ (rw0 (HV7.out.up (by repeat' (first | (with_reducible exact Below.refl _ _) | (with_reducible assumption) | (with_reducible exact HBW.out) | (with_reducible refine below_over ?_ _ _) | (with_reducible refine Lw.below_alloc ?_ _) | (with_reducible refine Below.drew ?_) | (with_reducible refine below_drewN ?_ _) | (with_reducible refine Below.setCell ?_ ?_ _) | go_size)))).rd HR8.out HFL.out HFL.out (by omega) (by omega)).mono ?_); rintro e w' ⟨rfl, hb⟩; have HV8 := Lib.hid (HV7.out.up hb); clear hb)
          | (go_at_call 20; (with_reducible refine (dcells_any q0 G1 m n Lz _ (dg1 (HV6.out.up (by repeat' (first | (with_reducible exact Below.refl _ _) | (with_reducible assumption) | (with_reducible exact HBW.out) | (with_reducible refine below_over ?_ _ _) | (with_reducible refine Lw.below_alloc ?_ _) | (with_reducible refine Below.drew ?_) | (with_reducible refine below_drewN ?_ _) | (with_reducible refine Below.setCell ?_ ?_ _) | go_size))))).mono ?_); rintro e w' ⟨A8, cap8, rfl, hr8, hc8, hd8, hn8, hb8⟩; have HV7 := Lib.hid ((HV6.out.up (by repeat' (first | (with_reducible exact Below.refl _ _) | (with_reducible assumption) | (with_reducible exact HBW.out) | (with_reducible refine below_over ?_ _ _) | (with_reducible refine Lw.below_alloc ?_ _) | (with_reducible refine Below.drew ?_) | (with_reducible refine below_drewN ?_ _) | (with_reducible refine Below.setCell ?_ ?_ _) | go_size))).up hb8); have HR8 := Lib.hid hr8; clear hr8 hn8 hb8)
          | (go_at_call 19; (with_reducible refine (cells_any p F1 m n Lz _ (pg1 (HV5.out.up (by repeat' (first | (with_reducible exact Below.refl _ _) | (with_reducible assumption) | (with_reducible exact HBW.out) | (with_reducible refine below_over ?_ _ _) | (with_reducible refine Lw.below_alloc ?_ _) | (with_reducible refine Below.drew ?_) | (with_reducible refine below_drewN ?_ _) | (with_reducible refine Below.setCell ?_ ?_ _) | go_size))))).mono ?_); rintro e w' ⟨A9, cap9, rfl, hr, hcA9, hdA9, hn, hb⟩; have HV6 := Lib.hid ((HV5.out.up (by repeat' (first | (with_reducible exact Below.refl _ _) | (with_reducible assumption) | (with_reducible exact HBW.out) | (with_reducible refine below_over ?_ _ _) | (with_reducible refine Lw.below_alloc ?_ _) | (with_reducible refine Below.drew ?_) | (with_reducible refine below_drewN ?_ _) | (with_reducible refine Below.setCell ?_ ?_ _) | go_size))).push (rowT A9 Lz.flatten) hb hr (fun k hk => by obtain ⟨a, ha, rfl⟩ := hk; exact hn a ha)); clear hr hn hb)
          | (go_at_call 17; (with_reducible refine (width_any p F1 m n Lz _ (pg1 (HV4.out.up (by repeat' (first | (with_reducible exact Below.refl _ _) | (with_reducible assumption) | (with_reducible exact HBW.out) | (with_reducible refine below_over ?_ _ _) | (with_reducible refine Lw.below_alloc ?_ _) | (with_reducible refine Below.drew ?_) | (with_reducible refine below_drewN ?_ _) | (with_reducible refine Below.setCell ?_ ?_ _) | go_size))))).mono ?_); rintro e w' ⟨rfl, hb⟩; have HV5 := Lib.hid ((HV4.out.up (by repeat' (first | (with_reducible exact Below.refl _ _) | (with_reducible assumption) | (with_reducible exact HBW.out) | (with_reducible refine below_over ?_ _ _) | (with_reducible refine Lw.below_alloc ?_ _) | (with_reducible refine Below.drew ?_) | (with_reducible refine below_drewN ?_ _) | (with_reducible refine Below.setCell ?_ ?_ _) | go_size))).up hb); clear hb)
          | (go_at_call 16; (with_reducible refine (rows_any p F1 m n Lz _ (pg1 (HV3.out.up (by repeat' (first | (with_reducible exact Below.refl _ _) | (with_reducible assumption) | (with_reducible exact HBW.out) | (with_reducible refine below_over ?_ _ _) | (with_reducible refine Lw.below_alloc ?_ _) | (with_reducible refine Below.drew ?_) | (with_reducible refine below_drewN ?_ _) | (with_reducible refine Below.setCell ?_ ?_ _) | go_size))))).mono ?_); rintro e w' ⟨rfl, hb⟩; have HV4 := Lib.hid ((HV3.out.up (by repeat' (first | (with_reducible exact Below.refl _ _) | (with_reducible assumption) | (with_reducible exact HBW.out) | (with_reducible refine below_over ?_ _ _) | (with_reducible refine Lw.below_alloc ?_ _) | (with_reducible refine Below.drew ?_) | (with_reducible refine below_drewN ?_ _) | (with_reducible refine Below.setCell ?_ ?_ _) | go_size))).up hb); clear hb))
        all_goals go_ret
        all_goals exact ⟨ret_b (by first | rfl | (simp [*]; done)), HV8.out.below⟩
      · have e : k = N := by omega
        subst e
        go_wp2_with (first
          | (go_at_call 18; (with_reducible refine (rsame_any A9 (some A8) (m * n) (m * n) cap9 cap8 Lz.flatten Lz.flatten _ (rw0 (HV7.out.up (by repeat' (first | (with_reducible exact Below.refl _ _) | (with_reducible assumption) | (with_reducible exact HBW.out) | (with_reducible refine below_over ?_ _ _) | (with_reducible refine Lw.below_alloc ?_ _) | (with_reducible refine Below.drew ?_) | (with_reducible refine below_drewN ?_ _) | (with_reducible refine Below.setCell ?_ ?_ _) | go_size)))).rd HR8.out HFL.out HFL.out (by omega) (by omega)).mono ?_); rintro e w' ⟨rfl, hb⟩; have HV8 := Lib.hid (HV7.out.up hb); clear hb)
          | (go_at_call 20; (with_reducible refine (dcells_any q0 G1 m n Lz _ (dg1 (HV6.out.up (by repeat' (first | (with_reducible exact Below.refl _ _) | (with_reducible assumption) | (with_reducible exact HBW.out) | (with_reducible refine below_over ?_ _ _) | (with_reducible refine Lw.below_alloc ?_ _) | (with_reducible refine Below.drew ?_) | (with_reducible refine below_drewN ?_ _) | (with_reducible refine Below.setCell ?_ ?_ _) | go_size))))).mono ?_); rintro e w' ⟨A8, cap8, rfl, hr8, hc8, hd8, hn8, hb8⟩; have HV7 := Lib.hid ((HV6.out.up (by repeat' (first | (with_reducible exact Below.refl _ _) | (with_reducible assumption) | (with_reducible exact HBW.out) | (with_reducible refine below_over ?_ _ _) | (with_reducible refine Lw.below_alloc ?_ _) | (with_reducible refine Below.drew ?_) | (with_reducible refine below_drewN ?_ _) | (with_reducible refine Below.setCell ?_ ?_ _) | go_size))).up hb8); have HR8 := Lib.hid hr8; clear hr8 hn8 hb8)
          | (go_at_call 19; (with_reducible refine (cells_any p F1 m n Lz _ (pg1 (HV5.out.up (by repeat' (first | (with_reducible exact Below.refl _ _) | (with_reducible assumption) | (with_reducible exact HBW.out) | (with_reducible refine below_over ?_ _ _) | (with_reducible refine Lw.below_alloc ?_ _) | (with_reducible refine Below.drew ?_) | (with_reducible refine below_drewN ?_ _) | (with_reducible refine Below.setCell ?_ ?_ _) | go_size))))).mono ?_); rintro e w' ⟨A9, cap9, rfl, hr, hcA9, hdA9, hn, hb⟩; have HV6 := Lib.hid ((HV5.out.up (by repeat' (first | (with_reducible exact Below.refl _ _) | (with_reducible assumption) | (with_reducible exact HBW.out) | (with_reducible refine below_over ?_ _ _) | (with_reducible refine Lw.below_alloc ?_ _) | (with_reducible refine Below.drew ?_) | (with_reducible refine below_drewN ?_ _) | (with_reducible refine Below.setCell ?_ ?_ _) | go_size))).push (rowT A9 Lz.flatten) hb hr (fun k hk => by obtain ⟨a, ha, rfl⟩ := hk; exact hn a ha)); clear hr hn hb)
          | (go_at_call 17; (with_reducible refine (width_any p F1 m n Lz _ (pg1 (HV4.out.up (by repeat' (first | (with_reducible exact Below.refl _ _) | (with_reducible assumption) | (with_reducible exact HBW.out) | (with_reducible refine below_over ?_ _ _) | (with_reducible refine Lw.below_alloc ?_ _) | (with_reducible refine Below.drew ?_) | (with_reducible refine below_drewN ?_ _) | (with_reducible refine Below.setCell ?_ ?_ _) | go_size))))).mono ?_); rintro e w' ⟨rfl, hb⟩; have HV5 := Lib.hid ((HV4.out.up (by repeat' (first | (with_reducible exact Below.refl _ _) | (with_reducible assumption) | (with_reducible exact HBW.out) | (with_reducible refine below_over ?_ _ _) | (with_reducible refine Lw.below_alloc ?_ _) | (with_reducible refine Below.drew ?_) | (with_reducible refine below_drewN ?_ _) | (with_reducible refine Below.setCell ?_ ?_ _) | go_size))).up hb); clear hb)
          | (go_at_call 16; (with_reducible refine (rows_any p F1 m n Lz _ (pg1 (HV3.out.up (by repeat' (first | (with_reducible exact Below.refl _ _) | (with_reducible assumption) | (with_reducible exact HBW.out) | (with_reducible refine below_over ?_ _ _) | (with_reducible refine Lw.below_alloc ?_ _) | (with_reducible refine Below.drew ?_) | (with_reducible refine below_drewN ?_ _) | (with_reducible refine Below.setCell ?_ ?_ _) | go_size))))).mono ?_); rintro e w' ⟨rfl, hb⟩; have HV4 := Lib.hid ((HV3.out.up (by repeat' (first | (with_reducible exact Below.refl _ _) | (with_reducible assumption) | (with_reducible exact HBW.out) | (with_reducible refine below_over ?_ _ _) | (with_reducible refine Lw.below_alloc ?_ _) | (with_reducible refine Below.drew ?_) | (with_reducible refine below_drewN ?_ _) | (with_reducible refine Below.setCell ?_ ?_ _) | go_size))).up hb); clear hb))
        all_goals go_ret
        all_goals exact ⟨ret_b (by first | rfl | (simp [*]; done)), HV8.out.below⟩
namespace gridPlays
open Go.ChangeShapes Go.WideShapes Go.ChangeAt Go.Joins
set_option maxRecDepth 100000 in
theorem lifted (os : Os) (started : os.Started) (H : Type) (enc : TypeId × Value → H) :
    ReturnsInHanded {} Try.checked os 3 .any (Rows.gridPlaysSpec.pre6 enc Try.prog Try.f3 Rows.gridPlaysRow.domain false) (Rows.gridPlaysSpec.post enc Try.prog Try.f3 false true false false) := by
  refine Lw.lifted (C := Try.checked) (B := 4) (by kernel_rfl) os started (by kernel_rfl) Try.func3
    (ChangeSpec.witness6 (enc := enc) (C := Try.checked) false ⟨#[], #[.int .i64 0, .int .i64 0, .slice none 0 0], []⟩ 8 (by kernel_rfl) (by kernel_rfl) (by kernel_rfl) (by kernel_rfl)) rfl Try.underlying4 (by kernel_rfl) (by kernel_rfl) (by kernel_rfl) ?_ ?_
  · intro ds h
    rw [Try.params3] at h
    match ds, h with
    | [_, _, _], _ => rfl
  · intro W base args ds p hval hA
    rw [Try.params3] at hA hval
    obtain ⟨v0, vs0, d0, ds0, p0, q0, hargs, rfl, rfl, h0, r0⟩ := trodAll_cons hA
    obtain ⟨v1, vs1, d1, ds1, p1, q1, rfl, rfl, rfl, h1, r1⟩ := trodAll_cons r0
    obtain ⟨v2, vs2, d2, ds2, p2, q2, rfl, rfl, rfl, h2, r2⟩ := trodAll_cons r1
    obtain ⟨rfl, rfl, rfl⟩ := trodAll_nil r2
    obtain rfl : args = #[v0, v1, v2] := by cases args; simp_all
    obtain ⟨a0, rfl, rfl, rfl, w0⟩ := open_int Try.underlying3 (hval 0 3 v0 rfl rfl) h0
    have b0 := Lw.wf_i64 w0
    obtain ⟨a1, rfl, rfl, rfl, w1⟩ := open_int Try.underlying3 (hval 1 3 v1 rfl rfl) h1
    have b1 := Lw.wf_i64 w1
    obtain ⟨A2, n2, c2, qs2, rfl, hA2, hn2, hc2, hl2, hq2⟩ := open_putsv (hval 2 22 v2 rfl rfl) h2
    exact plays_any a0 a1 b0.1 b0.2 b1.1 b1.2 A2 n2 c2 qs2 W hA2 hn2 hc2 hl2 hq2
theorem over : Rows.gridPlaysRow.holds Try.pinned (OpenSpec.ofChange Rows.gridPlaysSpec) :=
  OpenClaim.holds_of_wide 3 Try.f3 rfl rfl rfl rfl rfl rfl rfl ⟨rfl, rfl, rfl, rfl, rfl⟩ rfl rfl rfl rfl rfl (by kernel_rfl) Try.func3 (by kernel_rfl)
    (of_decide_eq_true (by kernel_rfl)) (by unfold Func.isWrapper; first | (rw [if_pos (by decide +kernel)]; kernel_rfl) | (rw [if_neg (by decide +kernel)]; exact ⟨rfl, rfl⟩))
    (fun os started H enc _ => lifted os started H enc)
theorem proved : Rows.GridPlaysSaid :=
  over
#print axioms proved
end gridPlays
end Go.Proofs.Ytbjbkjdpkplfmaa.Grd
