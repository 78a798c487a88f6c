/- The statement GridTwice of layer 6 holds. Printed by wip/gen/grdlaws.py. -/
import Derived.Test.YtbjbkjdpkplfmaaGrdLawA
import Derived.Test.YtbjbkjdpkplfmaaLaw
import Derived.Deep.LoopGhost
import Derived.Deep.RegionHeld3
import Derived.Deep.DeepCutAuto
import Derived.Deep.QuietTactic
import Derived.BigQuiet
namespace Go.Proofs.Ytbjbkjdpkplfmaa.Grd
open Go Go.RowKit Lw
set_option linter.unusedVariables false
set_option linter.unusedSimpArgs false
set_option maxRecDepth 100000 in
set_option maxHeartbeats 4000000 in
theorem twice_yes (rows width : Int) (r0 : -9223372036854775808 ≤ rows) (r1 : rows ≤ 9223372036854775807) (c0 : -9223372036854775808 ≤ width) (c1 : width ≤ 9223372036854775807) (A2 : Option Addr) (n2 c2 : Nat) (qs2 : List (Int × Int × Int)) (hA2 : A2 = none → n2 = 0 ∧ c2 = 0) (hn2 : n2 ≤ c2) (hc2 : c2 ≤ maxLen) (hl2 : qs2.length = n2) (L : List (List Int)) (w : World) (hLq : puts (zerosL (cl rows 8) (cl width 128)) (qs2.take 200) = L) (hall : L.flatten.all in62 = true) (hq2 : Puts w A2 qs2) :
    Calls Try.prog 6 #[.int .i64 rows, .int .i64 width, .slice A2 n2 c2] w fun e w' => e = .returned (.bool true) ∧ Below w.heap.size w w' := by
  have HQ2 := Lib.hid hq2
  have HA2 := Lib.hid hA2
  clear hq2 hA2
  unfold maxLen at hc2
  obtain ⟨m, hm⟩ : ∃ m, cl rows 8 = m := ⟨_, rfl⟩
  obtain ⟨n, hn⟩ : ∃ n, cl width 128 = n := ⟨_, rfl⟩
  have hm8 : m ≤ 8 := by rw [← hm]; unfold cl; omega
  have hn128 : n ≤ 128 := by rw [← hn]; unfold cl; omega
  have hmn : m * n ≤ 1024 := Nat.mul_le_mul hm8 hn128
  rw [hm, hn] at hLq
  have HLQ := Lib.hid hLq
  have hdl := puts_ok hm8 hn128 HQ2.out hLq
  have HFL : Hid (L.flatten.length = m * n) := Lib.hid (flat_dims hdl)
  have HIN : Hid (In64 L.flatten) := Lib.hid (fun v hv => by obtain ⟨r, hr, hv⟩ := List.mem_flatten.1 hv; exact (hdl.rows r hr).2 v hv)
  clear hLq
  have HM := Lib.hid hm
  have HN := Lib.hid hn
  clear hm hn
  have hfit : fitsAll (gridS 1 L L) = true := by rw [twice_fits, hall]
  obtain ⟨j1, j2⟩ := jcode_yes (m := m) (n := n) hfit
  obtain ⟨J, hJ⟩ : ∃ J, gridS 1 L L = J := ⟨_, rfl⟩
  rw [hJ] at j2
  have HJF : Hid (J.flatten = L.flatten.map (2 * ·)) := Lib.hid (by rw [← hJ]; exact twice_flat L)
  have HFJ : Hid (J.flatten.length = m * n) := Lib.hid (by rw [HJF.out, List.length_map]; exact HFL.out)
  have HJ2 := Lib.hid j2
  have HALL := Lib.hid hall
  clear j2 hJ hdl hfit hall
  have HBW0 : Hid (Below w.heap.size w w) := Lib.hid (Below.refl _ _)
  go_enter Try.func6, Try.ntmps6
  go_wp2_with (first
    | (go_at_call 19; (with_reducible refine (cells_any p Fp m n L _ (pg0 (HV1.out.up (by repeat' (first | (with_reducible exact Below.refl _ _) | (with_reducible assumption) | (with_reducible exact HBW.out) | (with_reducible refine below_over ?_ _ _) | (with_reducible refine Lw.below_alloc ?_ _) | (with_reducible refine Below.drew ?_) | (with_reducible refine below_drewN ?_ _) | (with_reducible refine Below.setCell ?_ ?_ _) | go_size))))).mono ?_); rintro e w' ⟨A7, cap7, rfl, hr, hc7, hd7, hn, hb⟩; have HV3 := Lib.hid ((HV1.out.up (by repeat' (first | (with_reducible exact Below.refl _ _) | (with_reducible assumption) | (with_reducible exact HBW.out) | (with_reducible refine below_over ?_ _ _) | (with_reducible refine Lw.below_alloc ?_ _) | (with_reducible refine Below.drew ?_) | (with_reducible refine below_drewN ?_ _) | (with_reducible refine Below.setCell ?_ ?_ _) | go_size))).push (rowT A7 L.flatten) hb hr (fun k hk => by obtain ⟨a, ha, rfl⟩ := hk; exact hn a ha)); clear hr hn hb)
    | (go_at_call 21; (with_reducible refine (made_at rows width (by omega) (by omega) (by omega) (by omega) A2 n2 c2 qs2 L _ HA2.out hn2 (by unfold maxLen; omega) hl2 (HQ2.out.up (HBHV0.out)) m n HM.out HN.out HLQ.out).mono ?_); rintro e w' ⟨p, q, Fp, Gq, rfl, hj⟩; have hj2 := HV0.out.join hj; simp only [List.cons_append, List.nil_append] at hj2; have HV1 := Lib.hid (hj2.drop); have HBHV1 := Lib.hid HV1.out.below; clear hj hj2)
    | (go_at_call 9; (with_reducible refine (shown_any _).mono ?_); rintro e w' ⟨rfl, hb⟩; have HV0 := Lib.hid (Have.start hb); have HBHV0 := Lib.hid HV0.out.below; clear hb))
  have HRD : Hid (Rd .i64 w' A7 L.flatten) := Lib.hid (rw0 HV3.out).rd
  go_loop [11, 12] (fun f i => ∃ k : Nat, k ≤ m * n ∧ i = .int .i64 k ∧ f = .bool ((L.flatten.take k).all in62)) (fun _ i => m * n - (intOf i).toNat)
  case atStart => exact ⟨0, Nat.zero_le _, rfl, rfl⟩
  case round =>
    obtain ⟨k, hk, rfl, rfl⟩ := hrel
    by_cases hlt : k < m * n
    · have hkl : k < L.flatten.length := by rw [HFL.out]; exact hlt
      obtain ⟨v, hv⟩ : ∃ v, L.flatten[k]? = some v := ⟨_, List.getElem?_eq_getElem hkl⟩
      have vb := HIN.out v (List.mem_of_getElem? hv)
      obtain ⟨ad, rfl, hc⟩ := HRD.out k v hv
      have hnx : (L.flatten.take (k + 1)).all in62 = ((L.flatten.take k).all in62 && in62 v) := by
        have e := List.getElem?_eq_some_iff.1 hv
        obtain ⟨h1, h2⟩ := e
        rw [List.take_succ_eq_append_getElem h1, List.all_append, h2]
        simp
      have HNX := Lib.hid hnx
      clear hv hnx hkl
      have hlt2 : (k : Int) < ((m * n : Nat) : Int) := by omega
      obtain ⟨fk, hfk⟩ : ∃ fk, (L.flatten.take k).all in62 = fk := ⟨_, rfl⟩
      rw [hfk]
      rw [hfk] at HNX
      clear hfk
      cases fk
      · go_wp2
        go_round
        case rel => exact ⟨k + 1, by omega, by go_num, by rw [HNX.out]; rfl⟩
        case measure => simp [intOf]; omega
      · by_cases g1 : -4611686018427387904 ≤ v
        · by_cases g2 : v < 4611686018427387904
          · go_wp2
            go_round
            case rel => exact ⟨k + 1, by omega, by go_num, by rw [HNX.out]; simp [in62, g1, g2]⟩
            case measure => simp [intOf]; omega
          · go_wp2
            go_round
            case rel => exact ⟨k + 1, by omega, by go_num, by rw [HNX.out]; simp [in62, g1, g2]⟩
            case measure => simp [intOf]; omega
        · go_wp2
          go_round
          case rel => exact ⟨k + 1, by omega, by go_num, by rw [HNX.out]; simp [in62, g1]⟩
          case measure => simp [intOf]; omega
    · have e : k = m * n := by omega
      subst e
      rw [List.take_of_length_le (by rw [HFL.out]; exact Nat.le_refl _), HALL.out]
      go_wp2_with (first
        | (go_at_call 19; (with_reducible refine (cells_any p F6 m n J _ (pg1 (HV4.out.up (by repeat' (first | (with_reducible exact Below.refl _ _) | (with_reducible assumption) | (with_reducible exact HBW.out) | (with_reducible refine below_over ?_ _ _) | (with_reducible refine Lw.below_alloc ?_ _) | (with_reducible refine Below.drew ?_) | (with_reducible refine below_drewN ?_ _) | (with_reducible refine Below.setCell ?_ ?_ _) | go_size))))).mono ?_); rintro e w' ⟨A8, cap8, rfl, hr, hc8, hd8, hn, hb⟩; have HV5 := Lib.hid ((HV4.out.up (by repeat' (first | (with_reducible exact Below.refl _ _) | (with_reducible assumption) | (with_reducible exact HBW.out) | (with_reducible refine below_over ?_ _ _) | (with_reducible refine Lw.below_alloc ?_ _) | (with_reducible refine Below.drew ?_) | (with_reducible refine below_drewN ?_ _) | (with_reducible refine Below.setCell ?_ ?_ _) | go_size))).push (rowT A8 J.flatten) hb hr (fun k hk => by obtain ⟨a, ha, rfl⟩ := hk; exact hn a ha)); clear hr hn hb)
        | (go_at_call 24; (with_reducible refine (plus_self p Fp m n L _ (pg1 (HV3.out.up (by repeat' (first | (with_reducible exact Below.refl _ _) | (with_reducible assumption) | (with_reducible exact HBW.out) | (with_reducible refine below_over ?_ _ _) | (with_reducible refine Lw.below_alloc ?_ _) | (with_reducible refine Below.drew ?_) | (with_reducible refine below_drewN ?_ _) | (with_reducible refine Below.setCell ?_ ?_ _) | go_size))))).mono ?_); rintro e w' ⟨rfl, F6, hnp, hnk, hnf⟩; rw [HJ2.out] at hnp; have HV4 := Lib.hid (Have.turn1 (HV3.out.up (by repeat' (first | (with_reducible exact Below.refl _ _) | (with_reducible assumption) | (with_reducible exact HBW.out) | (with_reducible refine below_over ?_ _ _) | (with_reducible refine Lw.below_alloc ?_ _) | (with_reducible refine Below.drew ?_) | (with_reducible refine below_drewN ?_ _) | (with_reducible refine Below.setCell ?_ ?_ _) | go_size))) (pgT p F6 m n J) hnp hnk hnf); clear hnp hnk hnf))
      have HRJ : Hid (Rd .i64 w' A8 J.flatten) := Lib.hid (rw0 HV5.out).rd
      have HRL : Hid (Rd .i64 w' A7 L.flatten) := Lib.hid (rw1 HV5.out).rd
      go_loopw [15] (fun i wr => ∃ k d : Nat, k ≤ m * n ∧ i = .int .i64 k ∧ wr = w'.drewN d) (fun i _ => m * n - (intOf i).toNat)
      case atStart => exact ⟨0, 0, Nat.zero_le _, rfl, rfl⟩
      case round =>
        obtain ⟨k, d, hk, rfl, rfl⟩ := hrel
        by_cases hlt : k < m * n
        · have hkl : k < L.flatten.length := by rw [HFL.out]; exact hlt
          obtain ⟨v, hv⟩ : ∃ v, L.flatten[k]? = some v := ⟨_, List.getElem?_eq_getElem hkl⟩
          have hv2 : J.flatten[k]? = some (2 * v) := by rw [HJF.out]; rw [List.getElem?_map, hv]; rfl
          have vb := HIN.out v (List.mem_of_getElem? hv)
          have v62 : in62 v = true := List.all_eq_true.1 HALL.out v (List.mem_of_getElem? hv)
          have v63 : -4611686018427387904 ≤ v ∧ v < 4611686018427387904 := of_decide_eq_true v62
          clear v62
          obtain ⟨ad, had, hc⟩ := HRL.out k v hv
          obtain ⟨ad2, had2, hc2⟩ := HRJ.out k _ hv2
          rw [had, had2]
          clear hv hv2 hkl
          have hlt2 : (k : Int) < ((m * n : Nat) : Int) := by omega
          go_wp2
          go_quiet (fail)
          go_wp2
          go_roundw
          case rel => exact ⟨k + 1, _, by omega, by go_num, rfl⟩
          case measure => simp [intOf]; omega
        · have e : k = m * n := by omega
          subst e
          go_wp2
          go_ret
          exact ⟨ret_b (by first | rfl | (simp [*]; done)), (HV5.out.up (below_drewN (Below.refl _ _) _)).below⟩
set_option maxRecDepth 100000 in
set_option maxHeartbeats 4000000 in
theorem twice_no (rows width : Int) (r0 : -9223372036854775808 ≤ rows) (r1 : rows ≤ 9223372036854775807) (c0 : -9223372036854775808 ≤ width) (c1 : width ≤ 9223372036854775807) (A2 : Option Addr) (n2 c2 : Nat) (qs2 : List (Int × Int × Int)) (hA2 : A2 = none → n2 = 0 ∧ c2 = 0) (hn2 : n2 ≤ c2) (hc2 : c2 ≤ maxLen) (hl2 : qs2.length = n2) (L : List (List Int)) (w : World) (hLq : puts (zerosL (cl rows 8) (cl width 128)) (qs2.take 200) = L) (hall : L.flatten.all in62 = false) (hq2 : Puts w A2 qs2) :
    Calls Try.prog 6 #[.int .i64 rows, .int .i64 width, .slice A2 n2 c2] w fun e w' => e = .returned (.bool true) ∧ Below w.heap.size w w' := by
  have HQ2 := Lib.hid hq2
  have HA2 := Lib.hid hA2
  clear hq2 hA2
  unfold maxLen at hc2
  obtain ⟨m, hm⟩ : ∃ m, cl rows 8 = m := ⟨_, rfl⟩
  obtain ⟨n, hn⟩ : ∃ n, cl width 128 = n := ⟨_, rfl⟩
  have hm8 : m ≤ 8 := by rw [← hm]; unfold cl; omega
  have hn128 : n ≤ 128 := by rw [← hn]; unfold cl; omega
  have hmn : m * n ≤ 1024 := Nat.mul_le_mul hm8 hn128
  rw [hm, hn] at hLq
  have HLQ := Lib.hid hLq
  have hdl := puts_ok hm8 hn128 HQ2.out hLq
  have HFL : Hid (L.flatten.length = m * n) := Lib.hid (flat_dims hdl)
  have HIN : Hid (In64 L.flatten) := Lib.hid (fun v hv => by obtain ⟨r, hr, hv⟩ := List.mem_flatten.1 hv; exact (hdl.rows r hr).2 v hv)
  clear hLq
  have HM := Lib.hid hm
  have HN := Lib.hid hn
  clear hm hn
  have hfit : fitsAll (gridS 1 L L) = false := by rw [twice_fits, hall]
  obtain ⟨j1, j2⟩ := jcode_no (m := m) (n := n) hfit
  obtain ⟨J, hJ⟩ : ∃ J, L = J := ⟨_, rfl⟩
  have j2 : jres 1 m n m n L L = J := j2.trans hJ
  have HJF : Hid (J.flatten = L.flatten) := Lib.hid (by rw [← hJ])
  have HFJ : Hid (J.flatten.length = m * n) := Lib.hid (by rw [HJF.out]; exact HFL.out)
  have HJ2 := Lib.hid j2
  have HALL := Lib.hid hall
  clear j2 hJ hdl hfit hall
  have HBW0 : Hid (Below w.heap.size w w) := Lib.hid (Below.refl _ _)
  go_enter Try.func6, Try.ntmps6
  go_wp2_with (first
    | (go_at_call 19; (with_reducible refine (cells_any p Fp m n L _ (pg0 (HV1.out.up (by repeat' (first | (with_reducible exact Below.refl _ _) | (with_reducible assumption) | (with_reducible exact HBW.out) | (with_reducible refine below_over ?_ _ _) | (with_reducible refine Lw.below_alloc ?_ _) | (with_reducible refine Below.drew ?_) | (with_reducible refine below_drewN ?_ _) | (with_reducible refine Below.setCell ?_ ?_ _) | go_size))))).mono ?_); rintro e w' ⟨A7, cap7, rfl, hr, hc7, hd7, hn, hb⟩; have HV3 := Lib.hid ((HV1.out.up (by repeat' (first | (with_reducible exact Below.refl _ _) | (with_reducible assumption) | (with_reducible exact HBW.out) | (with_reducible refine below_over ?_ _ _) | (with_reducible refine Lw.below_alloc ?_ _) | (with_reducible refine Below.drew ?_) | (with_reducible refine below_drewN ?_ _) | (with_reducible refine Below.setCell ?_ ?_ _) | go_size))).push (rowT A7 L.flatten) hb hr (fun k hk => by obtain ⟨a, ha, rfl⟩ := hk; exact hn a ha)); clear hr hn hb)
    | (go_at_call 21; (with_reducible refine (made_at rows width (by omega) (by omega) (by omega) (by omega) A2 n2 c2 qs2 L _ HA2.out hn2 (by unfold maxLen; omega) hl2 (HQ2.out.up (HBHV0.out)) m n HM.out HN.out HLQ.out).mono ?_); rintro e w' ⟨p, q, Fp, Gq, rfl, hj⟩; have hj2 := HV0.out.join hj; simp only [List.cons_append, List.nil_append] at hj2; have HV1 := Lib.hid (hj2.drop); have HBHV1 := Lib.hid HV1.out.below; clear hj hj2)
    | (go_at_call 9; (with_reducible refine (shown_any _).mono ?_); rintro e w' ⟨rfl, hb⟩; have HV0 := Lib.hid (Have.start hb); have HBHV0 := Lib.hid HV0.out.below; clear hb))
  have HRD : Hid (Rd .i64 w' A7 L.flatten) := Lib.hid (rw0 HV3.out).rd
  go_loop [11, 12] (fun f i => ∃ k : Nat, k ≤ m * n ∧ i = .int .i64 k ∧ f = .bool ((L.flatten.take k).all in62)) (fun _ i => m * n - (intOf i).toNat)
  case atStart => exact ⟨0, Nat.zero_le _, rfl, rfl⟩
  case round =>
    obtain ⟨k, hk, rfl, rfl⟩ := hrel
    by_cases hlt : k < m * n
    · have hkl : k < L.flatten.length := by rw [HFL.out]; exact hlt
      obtain ⟨v, hv⟩ : ∃ v, L.flatten[k]? = some v := ⟨_, List.getElem?_eq_getElem hkl⟩
      have vb := HIN.out v (List.mem_of_getElem? hv)
      obtain ⟨ad, rfl, hc⟩ := HRD.out k v hv
      have hnx : (L.flatten.take (k + 1)).all in62 = ((L.flatten.take k).all in62 && in62 v) := by
        have e := List.getElem?_eq_some_iff.1 hv
        obtain ⟨h1, h2⟩ := e
        rw [List.take_succ_eq_append_getElem h1, List.all_append, h2]
        simp
      have HNX := Lib.hid hnx
      clear hv hnx hkl
      have hlt2 : (k : Int) < ((m * n : Nat) : Int) := by omega
      obtain ⟨fk, hfk⟩ : ∃ fk, (L.flatten.take k).all in62 = fk := ⟨_, rfl⟩
      rw [hfk]
      rw [hfk] at HNX
      clear hfk
      cases fk
      · go_wp2
        go_round
        case rel => exact ⟨k + 1, by omega, by go_num, by rw [HNX.out]; rfl⟩
        case measure => simp [intOf]; omega
      · by_cases g1 : -4611686018427387904 ≤ v
        · by_cases g2 : v < 4611686018427387904
          · go_wp2
            go_round
            case rel => exact ⟨k + 1, by omega, by go_num, by rw [HNX.out]; simp [in62, g1, g2]⟩
            case measure => simp [intOf]; omega
          · go_wp2
            go_round
            case rel => exact ⟨k + 1, by omega, by go_num, by rw [HNX.out]; simp [in62, g1, g2]⟩
            case measure => simp [intOf]; omega
        · go_wp2
          go_round
          case rel => exact ⟨k + 1, by omega, by go_num, by rw [HNX.out]; simp [in62, g1]⟩
          case measure => simp [intOf]; omega
    · have e : k = m * n := by omega
      subst e
      rw [List.take_of_length_le (by rw [HFL.out]; exact Nat.le_refl _), HALL.out]
      go_wp2_with (first
        | (go_at_call 19; (with_reducible refine (cells_any p F6 m n J _ (pg1 (HV4.out.up (by repeat' (first | (with_reducible exact Below.refl _ _) | (with_reducible assumption) | (with_reducible exact HBW.out) | (with_reducible refine below_over ?_ _ _) | (with_reducible refine Lw.below_alloc ?_ _) | (with_reducible refine Below.drew ?_) | (with_reducible refine below_drewN ?_ _) | (with_reducible refine Below.setCell ?_ ?_ _) | go_size))))).mono ?_); rintro e w' ⟨A8, cap8, rfl, hr, hc8, hd8, hn, hb⟩; have HV5 := Lib.hid ((HV4.out.up (by repeat' (first | (with_reducible exact Below.refl _ _) | (with_reducible assumption) | (with_reducible exact HBW.out) | (with_reducible refine below_over ?_ _ _) | (with_reducible refine Lw.below_alloc ?_ _) | (with_reducible refine Below.drew ?_) | (with_reducible refine below_drewN ?_ _) | (with_reducible refine Below.setCell ?_ ?_ _) | go_size))).push (rowT A8 J.flatten) hb hr (fun k hk => by obtain ⟨a, ha, rfl⟩ := hk; exact hn a ha)); clear hr hn hb)
        | (go_at_call 24; (with_reducible refine (plus_self p Fp m n L _ (pg1 (HV3.out.up (by repeat' (first | (with_reducible exact Below.refl _ _) | (with_reducible assumption) | (with_reducible exact HBW.out) | (with_reducible refine below_over ?_ _ _) | (with_reducible refine Lw.below_alloc ?_ _) | (with_reducible refine Below.drew ?_) | (with_reducible refine below_drewN ?_ _) | (with_reducible refine Below.setCell ?_ ?_ _) | go_size))))).mono ?_); rintro e w' ⟨rfl, F6, hnp, hnk, hnf⟩; rw [HJ2.out] at hnp; have HV4 := Lib.hid (Have.turn1 (HV3.out.up (by repeat' (first | (with_reducible exact Below.refl _ _) | (with_reducible assumption) | (with_reducible exact HBW.out) | (with_reducible refine below_over ?_ _ _) | (with_reducible refine Lw.below_alloc ?_ _) | (with_reducible refine Below.drew ?_) | (with_reducible refine below_drewN ?_ _) | (with_reducible refine Below.setCell ?_ ?_ _) | go_size))) (pgT p F6 m n J) hnp hnk hnf); clear hnp hnk hnf))
      have HRJ : Hid (Rd .i64 w' A8 J.flatten) := Lib.hid (rw0 HV5.out).rd
      have HRL : Hid (Rd .i64 w' A7 L.flatten) := Lib.hid (rw1 HV5.out).rd
      go_loopw [15] (fun i wr => ∃ k d : Nat, k ≤ m * n ∧ i = .int .i64 k ∧ wr = w'.drewN d) (fun i _ => m * n - (intOf i).toNat)
      case atStart => exact ⟨0, 0, Nat.zero_le _, rfl, rfl⟩
      case round =>
        obtain ⟨k, d, hk, rfl, rfl⟩ := hrel
        by_cases hlt : k < m * n
        · have hkl : k < L.flatten.length := by rw [HFL.out]; exact hlt
          obtain ⟨v, hv⟩ : ∃ v, L.flatten[k]? = some v := ⟨_, List.getElem?_eq_getElem hkl⟩
          have hv2 : J.flatten[k]? = some v := by rw [HJF.out]; exact hv
          have vb := HIN.out v (List.mem_of_getElem? hv)

          obtain ⟨ad, had, hc⟩ := HRL.out k v hv
          obtain ⟨ad2, had2, hc2⟩ := HRJ.out k _ hv2
          rw [had, had2]
          clear hv hv2 hkl
          have hlt2 : (k : Int) < ((m * n : Nat) : Int) := by omega
          go_wp2
          go_quiet (fail)
          go_wp2
          go_roundw
          case rel => exact ⟨k + 1, _, by omega, by go_num, rfl⟩
          case measure => simp [intOf]; omega
        · have e : k = m * n := by omega
          subst e
          go_wp2
          go_ret
          exact ⟨ret_b (by first | rfl | (simp [*]; done)), (HV5.out.up (below_drewN (Below.refl _ _) _)).below⟩
theorem twice_any (rows width : Int) (r0 : -9223372036854775808 ≤ rows) (r1 : rows ≤ 9223372036854775807) (c0 : -9223372036854775808 ≤ width) (c1 : width ≤ 9223372036854775807) (A2 : Option Addr) (n2 c2 : Nat) (qs2 : List (Int × Int × Int)) (hA2 : A2 = none → n2 = 0 ∧ c2 = 0) (hn2 : n2 ≤ c2) (hc2 : c2 ≤ maxLen) (hl2 : qs2.length = n2) (w : World) (hq2 : Puts w A2 qs2) :
    Calls Try.prog 6 #[.int .i64 rows, .int .i64 width, .slice A2 n2 c2] w fun e w' => e = .returned (.bool true) ∧ Below w.heap.size w w' := by
  cases hf : (puts (zerosL (cl rows 8) (cl width 128)) (qs2.take 200)).flatten.all in62
  · exact twice_no rows width r0 r1 c0 c1 A2 n2 c2 qs2 hA2 hn2 hc2 hl2 _ w rfl hf hq2
  · exact twice_yes rows width r0 r1 c0 c1 A2 n2 c2 qs2 hA2 hn2 hc2 hl2 _ w rfl hf hq2
namespace gridTwice
open Go.ChangeShapes Go.WideShapes Go.ChangeAt Go.Joins
set_option maxRecDepth 100000 in
theorem lifted (os : Os) (started : os.Started) (H : Type) (enc : TypeId × Value → H) :
    ReturnsInHanded {} Try.checked os 6 .any (Rows.gridTwiceSpec.pre6 enc Try.prog Try.f6 Rows.gridTwiceRow.domain false) (Rows.gridTwiceSpec.post enc Try.prog Try.f6 false true false false) := by
  refine Lw.lifted (C := Try.checked) (B := 4) (by kernel_rfl) os started (by kernel_rfl) Try.func6
    (ChangeSpec.witness6 (enc := enc) (C := Try.checked) false ⟨#[], #[.int .i64 0, .int .i64 0, .slice none 0 0], []⟩ 8 (by kernel_rfl) (by kernel_rfl) (by kernel_rfl) (by kernel_rfl)) rfl Try.underlying4 (by kernel_rfl) (by kernel_rfl) (by kernel_rfl) ?_ ?_
  · intro ds h
    rw [Try.params6] at h
    match ds, h with
    | [_, _, _], _ => rfl
  · intro W base args ds p hval hA
    rw [Try.params6] at hA hval
    obtain ⟨v0, vs0, d0, ds0, p0, q0, hargs, rfl, rfl, h0, r0⟩ := trodAll_cons hA
    obtain ⟨v1, vs1, d1, ds1, p1, q1, rfl, rfl, rfl, h1, r1⟩ := trodAll_cons r0
    obtain ⟨v2, vs2, d2, ds2, p2, q2, rfl, rfl, rfl, h2, r2⟩ := trodAll_cons r1
    obtain ⟨rfl, rfl, rfl⟩ := trodAll_nil r2
    obtain rfl : args = #[v0, v1, v2] := by cases args; simp_all
    obtain ⟨a0, rfl, rfl, rfl, w0⟩ := open_int Try.underlying3 (hval 0 3 v0 rfl rfl) h0
    have b0 := Lw.wf_i64 w0
    obtain ⟨a1, rfl, rfl, rfl, w1⟩ := open_int Try.underlying3 (hval 1 3 v1 rfl rfl) h1
    have b1 := Lw.wf_i64 w1
    obtain ⟨A2, n2, c2, qs2, rfl, hA2, hn2, hc2, hl2, hq2⟩ := open_putsv (hval 2 22 v2 rfl rfl) h2
    exact twice_any a0 a1 b0.1 b0.2 b1.1 b1.2 A2 n2 c2 qs2 hA2 hn2 hc2 hl2 W hq2
theorem over : Rows.gridTwiceRow.holds Try.pinned (OpenSpec.ofChange Rows.gridTwiceSpec) :=
  OpenClaim.holds_of_wide 6 Try.f6 rfl rfl rfl rfl rfl rfl rfl ⟨rfl, rfl, rfl, rfl, rfl⟩ rfl rfl rfl rfl rfl (by kernel_rfl) Try.func6 (by kernel_rfl)
    (of_decide_eq_true (by kernel_rfl)) (by unfold Func.isWrapper; first | (rw [if_pos (by decide +kernel)]; kernel_rfl) | (rw [if_neg (by decide +kernel)]; exact ⟨rfl, rfl⟩))
    (fun os started H enc _ => lifted os started H enc)
theorem proved : Rows.GridTwiceSaid :=
  over
#print axioms proved
end gridTwice
end Go.Proofs.Ytbjbkjdpkplfmaa.Grd
