/- The walks of the document's own answers for layer 7. Printed by wip/gen/shp.py. -/
import Derived.Test.YtnbmdlkeeabmjaaShpDef
import Derived.Test.YtnbmdlkeeabmjaaSedRef
import Derived.Test.YtnbmdlkeeabmjaaHshRef
import Derived.Deep.LoopGhost
import Derived.Deep.RegionHeld3
import Derived.Deep.QuietTactic
import Derived.BigQuiet
import Derived.WalkSpells
namespace Go.Proofs.Ytnbmdlkeeabmjaa.Shp
open Go Go.RowKit Lw
set_option linter.unusedVariables false
set_option linter.unusedSimpArgs false
theorem ret_b {a b : Bool} (h : a = b) : Ending.returned (.bool a) = .returned (.bool b) := by rw [h]
theorem ret_i {k : IntKind} {a b : Int} (h : a = b) : Ending.returned (.int k a) = .returned (.int k b) := by rw [h]
theorem ret_ib {k : IntKind} {a b : Int} {p q : Bool} (h : a = b) (g : p = q) : Ending.returned (.tuple #[.int k a, .bool p]) = .returned (.tuple #[.int k b, .bool q]) := by rw [h, g]
theorem right_mode (c : Cfg) (h1 : 1 ≤ c.bt) (h2 : c.bt ≤ 59) (h3 : 1 ≤ c.rw) (h4 : c.rw ≤ 8) (h5 : 1 ≤ c.wd) (h6 : c.wd ≤ 128) : right c = (c.md == 1 || c.md == 2 || c.md == 3) := by
  by_cases h : 1 ≤ c.md ∧ c.md ≤ 3
  · have e : right c = true := decide_eq_true ⟨h1, h2, h3, h4, h5, h6, h.1, h.2⟩
    have : c.md = 1 ∨ c.md = 2 ∨ c.md = 3 := by omega
    rw [e]
    rcases this with h | h | h <;> simp [h]
  · have e : right c = false := decide_eq_false (fun hr => h ⟨hr.2.2.2.2.2.2.1, hr.2.2.2.2.2.2.2⟩)
    have n1 : ¬ c.md = 1 := by omega
    have n2 : ¬ c.md = 2 := by omega
    have n3 : ¬ c.md = 3 := by omega
    rw [e]
    simp [n1, n2, n3]
set_option maxRecDepth 100000 in
theorem rright_any (c : Cfg) (w : World) (h : c.Ok) :
    Calls Try.prog 11 #[.agg #[.int .i64 c.bt, .int .i64 c.rw, .int .i64 c.wd, .int .i64 c.md, .int .u64 c.sd]] w fun e w' => e = .returned (.bool (right c)) ∧ Below w.heap.size w w' := by
  obtain ⟨b0, b1, r0, r1, w0, w1, m0, m1, s0, s1⟩ := h
  go_enter Try.func11, Try.ntmps11
  go_wp2
  all_goals go_ret
  all_goals refine ⟨ret_b (by first | exact (decide_eq_false (fun h => by unfold IsRight at h; omega)).symm | exact (decide_eq_true (by unfold IsRight; omega)).symm | exact (right_mode c (by omega) (by omega) (by omega) (by omega) (by omega) (by omega)).symm), ?_⟩
  all_goals (repeat' (first | (with_reducible exact Below.refl _ _) | (with_reducible assumption) | (with_reducible refine below_over ?_ _ _) | (with_reducible refine Lw.below_alloc ?_ _) | (with_reducible refine Below.drew ?_) | (with_reducible refine below_drewN ?_ _) | (with_reducible refine Below.setCell ?_ ?_ _) | go_size))
theorem pow_next (a : Nat) : (2 : Int) ^ (a + 1) = 2 ^ a * 2 := by rw [Int.pow_succ]
set_option maxRecDepth 100000 in
theorem rkeys_any (c : Cfg) (l : Int) (w : World) (h : c.Ok) (l0 : -9223372036854775808 ≤ l) (l1 : l ≤ 9223372036854775807) :
    Calls Try.prog 13 #[.agg #[.int .i64 c.bt, .int .i64 c.rw, .int .i64 c.wd, .int .i64 c.md, .int .u64 c.sd], .int .i64 l] w fun e w' => e = .returned (.int .u64 (keys c l)) ∧ Below w.heap.size w w' := by
  have HO := Lib.hid h
  obtain ⟨b0, b1, r0, r1, w0, w1, m0, m1, s0, s1⟩ := h
  by_cases hr : IsRight c
  · have hr2 : right c = true := decide_eq_true hr
    have HR := Lib.hid hr
    have hb1 := hr.1
    have hb2 := hr.2.1
    clear hr
    by_cases h0 : l < 0
    · have hk : keys c l = 0 := keys_no (by omega)
      go_enter Try.func13, Try.ntmps13
      go_wp2_with (go_at_call 11; (with_reducible refine (rright_any c _ HO.out).mono ?_); rintro e w' ⟨rfl, hb⟩; obtain ⟨bs, d, rfl⟩ := below_grow hb; clear hb)
      all_goals go_ret
      all_goals refine ⟨ret_i hk.symm, ?_⟩
      all_goals (repeat' (first | (with_reducible exact Below.refl _ _) | (with_reducible assumption) | (with_reducible refine below_over ?_ _ _) | (with_reducible refine Lw.below_alloc ?_ _) | (with_reducible refine Below.drew ?_) | (with_reducible refine below_drewN ?_ _) | (with_reducible refine Below.setCell ?_ ?_ _) | go_size))
    · by_cases h2 : c.bt < l
      · have hk : keys c l = 0 := keys_no (by omega)
        go_enter Try.func13, Try.ntmps13
        go_wp2_with (go_at_call 11; (with_reducible refine (rright_any c _ HO.out).mono ?_); rintro e w' ⟨rfl, hb⟩; obtain ⟨bs, d, rfl⟩ := below_grow hb; clear hb)
        all_goals go_ret
        all_goals refine ⟨ret_i hk.symm, ?_⟩
        all_goals (repeat' (first | (with_reducible exact Below.refl _ _) | (with_reducible assumption) | (with_reducible refine below_over ?_ _ _) | (with_reducible refine Lw.below_alloc ?_ _) | (with_reducible refine Below.drew ?_) | (with_reducible refine below_drewN ?_ _) | (with_reducible refine Below.setCell ?_ ?_ _) | go_size))
      · have hk : keys c l = 2 ^ (c.bt - l).toNat := keys_yes HR.out (by omega) (by omega)
        have HK := Lib.hid hk
        clear hk
        go_enter Try.func13, Try.ntmps13
        go_wp2_with (go_at_call 11; (with_reducible refine (rright_any c _ HO.out).mono ?_); rintro e w' ⟨rfl, hb⟩; obtain ⟨bs, d, rfl⟩ := below_grow hb; clear hb)
        go_loop [5, 6] (fun n i => ∃ k : Nat, i = .int .i64 (l + k) ∧ l + k ≤ c.bt ∧ n = .int .u64 (2 ^ k)) (fun _ i => (c.bt - intOf i).toNat)
        case atStart => exact ⟨0, by simp, by omega, rfl⟩
        case round =>
          obtain ⟨k, rfl, hkb, rfl⟩ := hrel
          have hp0 := pow_pos2 k
          by_cases hlt : l + k < c.bt
          · have hp1 := pow_le2 (a := k) (b := 58) (by omega)
            have e58 : (2 : Int) ^ 58 = 288230376151711744 := by decide
            rw [e58] at hp1
            have HN := Lib.hid (pow_next k)
            clear e58
            obtain ⟨P, hP⟩ : ∃ P, (2 : Int) ^ k = P := ⟨_, rfl⟩
            rw [hP] at hp0 hp1 HN
            rw [hP]
            clear hP
            go_wp2
            go_round
            case rel => exact ⟨k + 1, by go_num, by omega, by rw [HN.out]⟩
            case measure => simp [intOf]; omega
          · have e : (c.bt - l).toNat = k := by omega
            rw [e] at HK
            go_wp2
            go_ret
            refine ⟨ret_i HK.out.symm, ?_⟩
            repeat' (first | (with_reducible exact Below.refl _ _) | (with_reducible assumption) | (with_reducible refine below_over ?_ _ _) | (with_reducible refine Lw.below_alloc ?_ _) | (with_reducible refine Below.drew ?_) | (with_reducible refine below_drewN ?_ _) | (with_reducible refine Below.setCell ?_ ?_ _) | go_size)
  · have hr2 : right c = false := decide_eq_false hr
    have hk : keys c l = 0 := keys_no (fun h => hr h.1)
    clear hr
    go_enter Try.func13, Try.ntmps13
    go_wp2_with (go_at_call 11; (with_reducible refine (rright_any c _ HO.out).mono ?_); rintro e w' ⟨rfl, hb⟩; obtain ⟨bs, d, rfl⟩ := below_grow hb; clear hb)
    all_goals go_ret
    all_goals refine ⟨ret_i hk.symm, ?_⟩
    all_goals (repeat' (first | (with_reducible exact Below.refl _ _) | (with_reducible assumption) | (with_reducible refine below_over ?_ _ _) | (with_reducible refine Lw.below_alloc ?_ _) | (with_reducible refine Below.drew ?_) | (with_reducible refine below_drewN ?_ _) | (with_reducible refine Below.setCell ?_ ?_ _) | go_size))
set_option maxRecDepth 100000 in
theorem rexact_any (c : Cfg) (l : Int) (w : World) (h : c.Ok) (l0 : -9223372036854775808 ≤ l) (l1 : l ≤ 9223372036854775807) :
    Calls Try.prog 15 #[.agg #[.int .i64 c.bt, .int .i64 c.rw, .int .i64 c.wd, .int .i64 c.md, .int .u64 c.sd], .int .i64 l] w fun e w' => e = .returned (.bool (exactB c l)) ∧ Below w.heap.size w w' := by
  have HO := Lib.hid h
  obtain ⟨b0, b1, r0, r1, w0, w1, m0, m1, s0, s1⟩ := h
  have hk := keys_bd c l
  have he : exactB c l = decide (1 ≤ keys c l ∧ keys c l ≤ c.wd) := rfl
  have HE := Lib.hid he
  clear he
  obtain ⟨K, hK⟩ : ∃ K, keys c l = K := ⟨_, rfl⟩
  rw [hK] at hk HE
  have hu : ∀ m : Int, 0 ≤ m → m ≤ 9223372036854775807 → IntKind.u64.wrap m = m := fun m h0 h1 => IntWalk.u64_in m ⟨by omega, by omega⟩
  by_cases h0 : c.wd < 0
  · have hu2 := hu 0 (by omega) (by omega)
    go_enter Try.func15, Try.ntmps15
    go_wp2_with (go_at_call 13; (with_reducible refine (rkeys_any c l _ HO.out l0 l1).mono ?_); rintro e w' ⟨he, hb⟩; rw [hK] at he; subst he; obtain ⟨bs, d, rfl⟩ := below_grow hb; clear hb)
    all_goals go_ret
    all_goals refine ⟨ret_b (by rw [HE.out]; first | exact (decide_eq_false (fun h => by omega)).symm | exact (decide_eq_true (by omega)).symm | (rw [Bool.eq_iff_iff]; simp; omega)), ?_⟩
    all_goals (repeat' (first | (with_reducible exact Below.refl _ _) | (with_reducible assumption) | (with_reducible refine below_over ?_ _ _) | (with_reducible refine Lw.below_alloc ?_ _) | (with_reducible refine Below.drew ?_) | (with_reducible refine below_drewN ?_ _) | (with_reducible refine Below.setCell ?_ ?_ _) | go_size))
  · have hu2 := hu c.wd (by omega) w1
    go_enter Try.func15, Try.ntmps15
    go_wp2_with (go_at_call 13; (with_reducible refine (rkeys_any c l _ HO.out l0 l1).mono ?_); rintro e w' ⟨he, hb⟩; rw [hK] at he; subst he; obtain ⟨bs, d, rfl⟩ := below_grow hb; clear hb)
    all_goals go_ret
    all_goals refine ⟨ret_b (by rw [HE.out]; first | exact (decide_eq_false (fun h => by omega)).symm | exact (decide_eq_true (by omega)).symm | (rw [Bool.eq_iff_iff]; simp; omega)), ?_⟩
    all_goals (repeat' (first | (with_reducible exact Below.refl _ _) | (with_reducible assumption) | (with_reducible refine below_over ?_ _ _) | (with_reducible refine Lw.below_alloc ?_ _) | (with_reducible refine Below.drew ?_) | (with_reducible refine below_drewN ?_ _) | (with_reducible refine Below.setCell ?_ ?_ _) | go_size))
theorem pow_div (k l : Int) (n : Nat) : k / 2 ^ n / 2 = k / 2 ^ (n + 1) := by
  rw [Int.pow_succ, Int.ediv_ediv_of_nonneg (by have := pow_pos2 n; omega)]
theorem div_bd (k : Int) (n : Nat) (h : 0 ≤ k) : 0 ≤ k / 2 ^ n ∧ k / 2 ^ n ≤ k := by
  have hp := pow_pos2 n
  refine ⟨Int.ediv_nonneg h (by omega), ?_⟩
  exact Int.ediv_le_self _ h
set_option maxRecDepth 100000 in
theorem rabove_any (c : Cfg) (l k : Int) (w : World) (h : c.Ok) (l0 : -9223372036854775808 ≤ l) (l1 : l ≤ 9223372036854775807) (k0 : 0 ≤ k) (k1 : k ≤ 18446744073709551615) :
    Calls Try.prog 17 #[.agg #[.int .i64 c.bt, .int .i64 c.rw, .int .i64 c.wd, .int .i64 c.md, .int .u64 c.sd], .int .i64 l, .int .u64 k] w fun e w' => e = .returned (.tuple #[.int .u64 (aboveV c l k), .bool (aboveOk c l k)]) ∧ Below w.heap.size w w' := by
  have HO := Lib.hid h
  obtain ⟨b0, b1, r0, r1, w0, w1, m0, m1, s0, s1⟩ := h
  have hkl := keys_bd c l
  have hkz := keys_bd c 0
  have hpos := keys_pos (c := c) (l := l)
  have HV : Hid (aboveV c l k = if aboveOk c l k = true then k / 2 ^ l.toNat else 0) := Lib.hid rfl
  have HA : Hid (aboveOk c l k = decide (keys c l ≠ 0 ∧ k < keys c 0)) := Lib.hid rfl
  obtain ⟨K, hK⟩ : ∃ K, keys c l = K := ⟨_, rfl⟩
  obtain ⟨Z, hZ⟩ : ∃ Z, keys c 0 = Z := ⟨_, rfl⟩
  rw [hK] at hkl hpos HA
  rw [hZ] at hkz HA
  by_cases h0 : K = 0
  · have ha : aboveOk c l k = false := HA.out.trans (decide_eq_false (fun h => h.1 h0))
    have hv : aboveV c l k = 0 := HV.out.trans (if_neg (by rw [ha]; decide))
    have h0b : (K == 0) = true := by simpa using h0
    clear h0 hpos
    go_enter Try.func17, Try.ntmps17
    go_wp2_with (first
      | (go_at_call 13; (with_reducible refine (rkeys_any c 0 _ HO.out (by omega) (by omega)).mono ?_); rintro e w' ⟨he, hb⟩; rw [hZ] at he; subst he; obtain ⟨bs, d, rfl⟩ := below_grow hb; clear hb)
      | (go_at_call 13; (with_reducible refine (rkeys_any c l _ HO.out l0 l1).mono ?_); rintro e w' ⟨he, hb⟩; rw [hK] at he; subst he; obtain ⟨bs, d, rfl⟩ := below_grow hb; clear hb))
    all_goals go_ret2
    all_goals refine ⟨ret_ib hv.symm ha.symm, ?_⟩
    all_goals (repeat' (first | (with_reducible exact Below.refl _ _) | (with_reducible assumption) | (with_reducible refine below_over ?_ _ _) | (with_reducible refine Lw.below_alloc ?_ _) | (with_reducible refine Below.drew ?_) | (with_reducible refine below_drewN ?_ _) | (with_reducible refine Below.setCell ?_ ?_ _) | go_size))
  · have h0b : (K == 0) = false := by simpa using h0
    by_cases h1 : k < Z
    · have ha : aboveOk c l k = true := HA.out.trans (decide_eq_true ⟨h0, h1⟩)
      have hv : aboveV c l k = k / 2 ^ l.toNat := HV.out.trans (if_pos ha)
      obtain ⟨hr, hl0, hl1⟩ := hpos.1 (by omega)
      have hb59 := hr.2.1
      have HW := Lib.hid hv
      have HA2 := Lib.hid ha
      clear h0 hpos hr hv ha
      go_enter Try.func17, Try.ntmps17
      go_wp2_with (first
        | (go_at_call 13; (with_reducible refine (rkeys_any c 0 _ HO.out (by omega) (by omega)).mono ?_); rintro e w' ⟨he, hb⟩; rw [hZ] at he; subst he; obtain ⟨bs, d, rfl⟩ := below_grow hb; clear hb)
        | (go_at_call 13; (with_reducible refine (rkeys_any c l _ HO.out l0 l1).mono ?_); rintro e w' ⟨he, hb⟩; rw [hK] at he; subst he; obtain ⟨bs, d, rfl⟩ := below_grow hb; clear hb))
      go_loop [2, 8] (fun a i => ∃ j : Nat, i = .int .i64 j ∧ (j : Int) ≤ l ∧ a = .int .u64 (k / 2 ^ j)) (fun _ i => (l - intOf i).toNat)
      case atStart => exact ⟨0, rfl, hl0, by simp⟩
      case round =>
        obtain ⟨j, rfl, hj, rfl⟩ := hrel
        have hd := div_bd k j k0
        by_cases hlt : (j : Int) < l
        · have HN := Lib.hid (pow_div k l j)
          obtain ⟨P, hP⟩ : ∃ P, k / 2 ^ j = P := ⟨_, rfl⟩
          rw [hP] at hd HN
          rw [hP]
          clear hP
          go_wp2
          go_round
          case rel => exact ⟨j + 1, by go_num, by omega, by rw [← HN.out]⟩
          case measure => simp [intOf]; omega
        · have e : l.toNat = j := by omega
          rw [e] at HW
          go_wp2
          go_ret2
          refine ⟨ret_ib HW.out.symm HA2.out.symm, ?_⟩
          repeat' (first | (with_reducible exact Below.refl _ _) | (with_reducible assumption) | (with_reducible refine below_over ?_ _ _) | (with_reducible refine Lw.below_alloc ?_ _) | (with_reducible refine Below.drew ?_) | (with_reducible refine below_drewN ?_ _) | (with_reducible refine Below.setCell ?_ ?_ _) | go_size)
    · have ha : aboveOk c l k = false := HA.out.trans (decide_eq_false (fun h => h1 h.2))
      have hv : aboveV c l k = 0 := HV.out.trans (if_neg (by rw [ha]; decide))
      clear hpos
      go_enter Try.func17, Try.ntmps17
      go_wp2_with (first
        | (go_at_call 13; (with_reducible refine (rkeys_any c 0 _ HO.out (by omega) (by omega)).mono ?_); rintro e w' ⟨he, hb⟩; rw [hZ] at he; subst he; obtain ⟨bs, d, rfl⟩ := below_grow hb; clear hb)
        | (go_at_call 13; (with_reducible refine (rkeys_any c l _ HO.out l0 l1).mono ?_); rintro e w' ⟨he, hb⟩; rw [hK] at he; subst he; obtain ⟨bs, d, rfl⟩ := below_grow hb; clear hb))
      all_goals go_ret2
      all_goals refine ⟨ret_ib hv.symm ha.symm, ?_⟩
      all_goals (repeat' (first | (with_reducible exact Below.refl _ _) | (with_reducible assumption) | (with_reducible refine below_over ?_ _ _) | (with_reducible refine Lw.below_alloc ?_ _) | (with_reducible refine Below.drew ?_) | (with_reducible refine below_drewN ?_ _) | (with_reducible refine Below.setCell ?_ ?_ _) | go_size))
set_option maxRecDepth 100000 in
set_option maxHeartbeats 2000000 in
theorem rsame_any (A B : Option Addr) (n m ca cb : Nat) (xs ys : List Int) (w : World) (ha : Rd .i64 w A xs) (hb : Rd .i64 w B ys) (hla : xs.length = n) (hlb : ys.length = m) (hn : n ≤ 9223372036854775807) (hm : m ≤ 9223372036854775807) :
    Calls Try.prog 18 #[.slice A n ca, .slice B m cb] w fun e w' => e = .returned (.bool (decide (xs = ys))) ∧ Below w.heap.size w w' := by
  have HA := Lib.hid ha
  have HB := Lib.hid hb
  have HLA := Lib.hid hla
  have HLB := Lib.hid hlb
  clear ha hb
  by_cases hnm : n = m
  · subst hnm
    clear hla hlb
    go_enter Try.func18, Try.ntmps18
    go_wp2
    go_loopw [5] (fun i wr => ∃ k d : Nat, k ≤ n ∧ i = .int .i64 k ∧ xs.take k = ys.take k ∧ wr = w.drewN d) (fun i _ => n - (intOf i).toNat)
    case atStart => exact ⟨0, 0, Nat.zero_le _, rfl, rfl, rfl⟩
    case round =>
      obtain ⟨k, d, hk, rfl, heq, rfl⟩ := hrel
      have HE := Lib.hid heq
      clear heq
      by_cases hlt : k < n
      · obtain ⟨x, hx⟩ : ∃ x, xs[k]? = some x := ⟨_, List.getElem?_eq_getElem (by have := HLA.out; omega)⟩
        obtain ⟨y, hy⟩ : ∃ y, ys[k]? = some y := ⟨_, List.getElem?_eq_getElem (by have := HLB.out; omega)⟩
        obtain ⟨ad, rfl, hcx⟩ := HA.out k x hx
        obtain ⟨bd, rfl, hcy⟩ := HB.out k y hy
        by_cases hxy : x = y
        · have HN : Hid (xs.take (k + 1) = ys.take (k + 1)) := Lib.hid (by
            rw [List.take_add_one, List.take_add_one, HE.out, hx, hy, hxy])
          subst hxy
          clear hx hy
          go_wp2
          go_quiet (fail)
          go_wp2
          go_roundw
          case rel => exact ⟨k + 1, _, by omega, by go_num, HN.out, rfl⟩
          case measure => simp [intOf]; omega
        · have HD : Hid (decide (xs = ys) = false) := Lib.hid (decide_eq_false (fun e => hxy (by rw [e, hy] at hx; injection hx with hx; exact hx.symm)))
          have hne : (x == y) = false := by simpa using hxy
          have hne2 : (x != y) = true := by simpa using hxy
          clear hx hy hxy
          go_wp2
          go_quiet (fail)
          go_wp2
          go_ret
          exact ⟨ret_b HD.out.symm, by first | exact below_drewN (Below.refl _ _) _ | exact below_drewN (below_drewN (Below.refl _ _) _) _⟩
      · have e : k = n := by omega
        subst e
        have HD : Hid (decide (xs = ys) = true) := Lib.hid (decide_eq_true (by
          have := HE.out
          rwa [List.take_of_length_le (by have := HLA.out; omega), List.take_of_length_le (by have := HLB.out; omega)] at this))
        go_wp2
        go_ret
        exact ⟨ret_b HD.out.symm, by first | exact below_drewN (Below.refl _ _) _ | exact below_drewN (below_drewN (Below.refl _ _) _) _⟩
  · have hne : ((n : Int) == (m : Int)) = false := by simp; omega
    have hne2 : ((n : Int) != (m : Int)) = true := by simp; omega
    have HD : Hid (decide (xs = ys) = false) := Lib.hid (decide_eq_false (fun e => hnm (by rw [← hla, ← hlb, e])))
    clear hla hlb hnm
    go_enter Try.func18, Try.ntmps18
    go_wp2
    go_ret
    exact ⟨ret_b HD.out.symm, Below.refl _ _⟩
theorem int_info : (Try.prog.info? 3).map (fun i => (i.zero, i.size, i.bytes)) = some (some (.int .i64 0), 1, 8) := by kernel_rfl
theorem ints_u : Try.prog.underlying 32 = some (.slice 3) := by kernel_rfl
theorem cols_yes {c : Cfg} {l k : Int} (h : k < keys c l) : cols c l k = (List.range c.rw.toNat).map (col c l k) := if_pos h
theorem cols_no {c : Cfg} {l k : Int} (h : ¬ k < keys c l) : cols c l k = [] := if_neg h
theorem range_next (f : Nat → Int) (r : Nat) : (List.range (r + 1)).map f = (List.range r).map f ++ [f r] := by rw [List.range_succ, List.map_append]; rfl
set_option maxRecDepth 100000 in
set_option maxHeartbeats 2000000 in
theorem rcols_any (c : Cfg) (l k : Int) (w : World) (h : c.Ok) (l0 : -9223372036854775808 ≤ l) (l1 : l ≤ 9223372036854775807) (k0 : 0 ≤ k) (k1 : k ≤ 18446744073709551615) :
    Calls Try.prog 20 #[.agg #[.int .i64 c.bt, .int .i64 c.rw, .int .i64 c.wd, .int .i64 c.md, .int .u64 c.sd], .int .i64 l, .int .u64 k] w fun e w' => ∃ (A : Addr) (cap : Nat), e = .returned (.slice (some A) (cols c l k).length cap) ∧ Rd .i64 w' (some A) (cols c l k) ∧ (cols c l k).length ≤ cap ∧ cap ≤ maxLen ∧ Below w.heap.size w w' := by
  obtain ⟨i0, hi, hi0, hi1, hi2⟩ := info_parts int_info
  have HO := Lib.hid h
  obtain ⟨b0, b1, r0, r1, w0, w1, m0, m1, s0, s1⟩ := h
  have hkl := keys_bd c l
  have hpos := keys_pos (c := c) (l := l)
  have HY := Lib.hid (@cols_yes c l k)
  have HNo := Lib.hid (@cols_no c l k)
  obtain ⟨K, hK⟩ : ∃ K, keys c l = K := ⟨_, rfl⟩
  rw [hK] at hkl hpos HY HNo
  by_cases h1 : k < K
  · obtain ⟨hr, hl0, hl1⟩ := hpos.1 (by omega)
    have hb59 := hr.2.1
    have hr1 := hr.2.2.1
    have hr2 := hr.2.2.2.1
    have HC := Lib.hid (HY.out h1)
    obtain ⟨R, hR⟩ : ∃ R : Nat, c.rw = R := ⟨c.rw.toNat, by omega⟩
    have HR : Hid (c.rw.toNat = R) := Lib.hid (by omega)
    have hR8 : R ≤ 8 := by omega
    have HRW := Lib.hid hR
    clear hpos hr hR
    go_enter Try.func20, Try.ntmps20
    go_wp2_with (go_at_call 13; (with_reducible refine (rkeys_any c l _ HO.out l0 l1).mono ?_); rintro e w' ⟨he, hb⟩; rw [hK] at he; subst he; obtain ⟨bs, d, rfl⟩ := below_grow hb; clear hb)
    obtain ⟨wK, hw1⟩ : ∃ wK : World, wK = grow ((w.alloc (.cells #[.int .i64 c.bt, .int .i64 c.rw, .int .i64 c.wd, .int .i64 c.md, .int .u64 c.sd] 24)).alloc (.cells #[] 3)) bs d := ⟨_, rfl⟩
    have hwb : Below w.heap.size w wK := by rw [hw1]; repeat' (first | (with_reducible exact Below.refl _ _) | (with_reducible assumption) | (with_reducible refine below_over ?_ _ _) | (with_reducible refine Lw.below_alloc ?_ _) | (with_reducible refine Below.drew ?_) | (with_reducible refine below_drewN ?_ _) | (with_reducible refine Below.setCell ?_ ?_ _) | go_size)
    have hwc : wK.heap[w.heap.size]? = some (.cells #[.int .i64 c.bt, .int .i64 c.rw, .int .i64 c.wd, .int .i64 c.md, .int .u64 c.sd] 24 (0, 0)) := by
      rw [hw1, (grow_below _ bs d).block _ (by simp), (Lw.below_alloc (Below.refl (w.alloc (.cells #[.int .i64 c.bt, .int .i64 c.rw, .int .i64 c.wd, .int .i64 c.md, .int .u64 c.sd] 24)).heap.size _) _).block _ (by simp)]
      exact heap_alloc_new w _
    have hwo : wK.ownsRow (w.heap.size + 1) 3 1 (.slice (some ⟨w.heap.size + 1, 0, none⟩) 0 0) 0 (([] : List Int).map (Value.int .i64)) := by
      rw [hw1]
      have h := own_empty (w.alloc (.cells #[.int .i64 c.bt, .int .i64 c.rw, .int .i64 c.wd, .int .i64 c.md, .int .u64 c.sd] 24)) 3 1 (w.heap.size + 1) (by simp)
      have e : (w.alloc (.cells #[.int .i64 c.bt, .int .i64 c.rw, .int .i64 c.wd, .int .i64 c.md, .int .u64 c.sd] 24)).heap.size = w.heap.size + 1 := by simp
      rw [e] at h
      exact (Kept.of_below (F := fun _ => False) (grow_below _ bs d)).own h (fun _ _ h => h)
    rw [← hw1]
    clear hw1
    have HW := Lib.hid hwb
    have HX := Lib.hid hwc
    have HY2 := Lib.hid hwo
    clear hwb hwc hwo
    go_loopw [7, 8] (fun v i wr => ∃ (r g cp : Nat), r ≤ R ∧ i = .int .i64 r ∧ v = .slice (some ⟨g, 0, none⟩) r cp ∧ wr.ownsRow (w.heap.size + 1) 3 1 v r (((List.range r).map (col c l k)).map (Value.int .i64)) ∧ wr.heap[w.heap.size]? = some (.cells #[.int .i64 c.bt, .int .i64 c.rw, .int .i64 c.wd, .int .i64 c.md, .int .u64 c.sd] 24 (0, 0)) ∧ Below w.heap.size w wr) (fun _ i _ => R - (intOf i).toNat)
    case atStart => exact ⟨0, _, 0, Nat.zero_le _, rfl, rfl, HY2.out, HX.out, HW.out⟩
    case round =>
      obtain ⟨r, g, cp, hrR, rfl, rfl, hown, hbox, hbel⟩ := hrel
      have hwl : w.heap.size < wr.heap.size := by
        rcases Nat.lt_or_ge w.heap.size wr.heap.size with h | h
        · exact h
        · rw [Array.getElem?_eq_none h] at hbox; cases hbox
      have x1 : wr.cell? ⟨w.heap.size, 1, none⟩ = some (.int .i64 c.rw) := by simp [World.cell?, hbox]
      have x2 : wr.cell? ⟨w.heap.size, 2, none⟩ = some (.int .i64 c.wd) := by simp [World.cell?, hbox]
      have x4 : wr.cell? ⟨w.heap.size, 4, none⟩ = some (.int .u64 c.sd) := by simp [World.cell?, hbox]
      have HOW := Lib.hid hown
      have HBX := Lib.hid hbox
      have HBL := Lib.hid hbel
      clear hown hbox hbel
      rw [HRW.out] at x1
      by_cases hlt : r < R
      · obtain ⟨pa, hpa⟩ : ∃ pa, Sed.pairA c.sd l r = pa := ⟨_, rfl⟩
        obtain ⟨pb, hpb⟩ : ∃ pb, Sed.pairB c.sd l r = pb := ⟨_, rfl⟩
        have ba := Sed.pairA_bd c.sd l r
        have bb := Sed.pairB_bd c.sd l r
        have hok : Sed.okRow l r := ⟨hl0, by have := b1; omega, by omega, by omega⟩
        have ba := ba hok
        have bb := bb hok
        rw [hpa] at ba
        rw [hpb] at bb
        obtain ⟨X, hX⟩ : ∃ X, Hsh.buck pa pb k c.wd = X := ⟨_, rfl⟩
        have hcol : col c l k r = X := by unfold col; rw [hpa, hpb, hX]
        have HN := Lib.hid (range_next (col c l k) r)
        rw [hcol] at HN
        clear hcol hok
        go_wp2_with (first
          | (go_at_call 28; (with_reducible refine (Sed.rpair_any c.sd l r _ l0 l1 (by omega) (by omega)).mono ?_); rintro e w' ⟨he, rfl⟩; rw [hpa, hpb] at he; subst he)
          | (go_at_call 29; (with_reducible refine (Hsh.rbucket_any pa pb k c.wd _ (by omega) (by omega) (by omega) (by omega) k0 k1 w0 w1).mono ?_); rintro e w' ⟨he, rfl⟩; rw [hX] at he; subst he)
          | (at_builtin; (refine app_one .i64 rfl _ _ 32 rfl (w.heap.size + 1) 3 i0 8 ints_u hi hi0 hi1 hi2 (.slice (some ⟨g, 0, none⟩) r cp) r ((List.range r).map (col c l k)) rfl (HOW.out.alloc _) X wr.heap.size rfl (cell_one_new _ _ _) (by unfold maxLen; omega) (by omega) (by simp; omega) ?_); intro v1 w2 own1 grow1 oth1; obtain ⟨gg, cc, rfl, hgg, hgl⟩ := own1.form (by omega)))
        go_roundw
        case rel =>
          have hge := own_ge HOW.out
          refine ⟨r + 1, gg, cc, by omega, by go_num, rfl, by rw [HN.out]; exact own1, ?_, ?_⟩
          · refine ((Kept.refl (fun q => q = g) _).grown grow1 (fun q hq => .inl (by simpa [Value.ownBlock] using hq.symm))).heap (o := _) ?_ (by have := hge g rfl; omega)
            rw [(Lw.below_alloc (Below.refl wr.heap.size wr) _).block _ hwl]
            exact HBX.out
          · exact app_below3 (Lw.below_alloc HBL.out _) grow1 (fun q hq => by have := hge q hq; omega)
        case measure => simp [intOf]; omega
      · have e : r = R := by omega
        subst e
        obtain ⟨A, cp2, hv, hrd, h2, h3, h4⟩ := own_rd HOW.out
        injection hv with hv1 hv2 hv3
        subst hv1 hv3
        have hlen : ((List.range r).map (col c l k)).length = r := by simp
        have HCC : Hid (cols c l k = (List.range r).map (col c l k)) := Lib.hid (by rw [HC.out, HR.out])
        have HRD := Lib.hid hrd
        clear hrd h4
        go_wp2
        go_ret
        exact ⟨⟨g, 0, none⟩, cp, by rw [HCC.out, hlen]; rfl, by rw [HCC.out]; exact HRD.out, by rw [HCC.out, hlen]; exact h2, h3, HBL.out⟩
  · have HC := Lib.hid (HNo.out h1)
    clear hpos
    go_enter Try.func20, Try.ntmps20
    go_wp2_with (go_at_call 13; (with_reducible refine (rkeys_any c l _ HO.out l0 l1).mono ?_); rintro e w' ⟨he, hb⟩; rw [hK] at he; subst he; obtain ⟨bs, d, rfl⟩ := below_grow hb; clear hb)
    all_goals go_ret
    all_goals refine ⟨⟨w.heap.size + 1, 0, none⟩, 0, by rw [HC.out]; rfl, by rw [HC.out]; exact rd_nil _ _ _, by rw [HC.out]; exact Nat.le_refl _, by decide, ?_⟩
    all_goals (repeat' (first | (with_reducible exact Below.refl _ _) | (with_reducible assumption) | (with_reducible refine below_over ?_ _ _) | (with_reducible refine Lw.below_alloc ?_ _) | (with_reducible refine Below.drew ?_) | (with_reducible refine below_drewN ?_ _) | (with_reducible refine Below.setCell ?_ ?_ _) | go_size))
def anyC (c : Cfg) (b v : Int) : Cfg := ⟨1 + c.bt % 65536 % b, 1 + c.rw % 65536 % 4, 1 + c.wd % 65536 % v, 1 + c.md % 65536 % 3, c.sd⟩
theorem any_right (c : Cfg) (b v : Int) (hb0 : 1 ≤ b) (hb1 : b ≤ 59) (hv0 : 1 ≤ v) (hv1 : v ≤ 128) : IsRight (anyC c b v) := by
  have h1 := Int.emod_nonneg (c.bt % 65536) (show b ≠ 0 by omega)
  have h2 := Int.emod_lt_of_pos (c.bt % 65536) (show 0 < b by omega)
  have h3 := Int.emod_nonneg (c.wd % 65536) (show v ≠ 0 by omega)
  have h4 := Int.emod_lt_of_pos (c.wd % 65536) (show 0 < v by omega)
  unfold IsRight anyC
  dsimp only
  refine ⟨by omega, by omega, by omega, by omega, by omega, by omega, by omega, by omega⟩
theorem any_ok (c : Cfg) (h : c.Ok) (b v : Int) (hb0 : 1 ≤ b) (hb1 : b ≤ 59) (hv0 : 1 ≤ v) (hv1 : v ≤ 128) : (anyC c b v).Ok := by
  obtain ⟨g1, g2, g3, g4, g5, g6, g7, g8⟩ := any_right c b v hb0 hb1 hv0 hv1
  exact ⟨by omega, by omega, by omega, by omega, by omega, by omega, by omega, by omega, h.s0, h.s1⟩
theorem any_part (x m : Int) (hm0 : 1 ≤ m) (hm1 : m ≤ 65536) : ∃ X, bits .and .i64 x 65535 = X ∧ 0 ≤ X ∧ X ≤ 65535 ∧ Int.tmod X m = x % 65536 % m ∧ 0 ≤ x % 65536 % m ∧ x % 65536 % m ≤ 65535 := by
  refine ⟨x % 65536, and16i x, by omega, by omega, ?_, Int.emod_nonneg _ (by omega), ?_⟩
  · rw [Int.tmod_eq_emod_of_nonneg (by omega)]
  · have := Int.emod_lt_of_pos (x % 65536) (show 0 < m by omega)
    omega
set_option maxRecDepth 100000 in
theorem rany_any (c : Cfg) (b v : Int) (w : World) (h : c.Ok) (hb0 : 1 ≤ b) (hb1 : b ≤ 59) (hv0 : 1 ≤ v) (hv1 : v ≤ 128) :
    Calls Try.prog 21 #[.agg #[.int .i64 c.bt, .int .i64 c.rw, .int .i64 c.wd, .int .i64 c.md, .int .u64 c.sd], .int .i64 b, .int .i64 v] w fun e w' => e = .returned (.agg #[.int .i64 (anyC c b v).bt, .int .i64 (anyC c b v).rw, .int .i64 (anyC c b v).wd, .int .i64 (anyC c b v).md, .int .u64 (anyC c b v).sd]) ∧ Below w.heap.size w w' := by
  obtain ⟨X1, a1, b1, c1, d1, e1, f1⟩ := any_part c.bt b hb0 (by omega)
  obtain ⟨X2, a2, b2, c2, d2, e2, f2⟩ := any_part c.rw 4 (by omega) (by omega)
  obtain ⟨X3, a3, b3, c3, d3, e3, f3⟩ := any_part c.wd v hv0 (by omega)
  obtain ⟨X4, a4, b4, c4, d4, e4, f4⟩ := any_part c.md 3 (by omega) (by omega)
  unfold anyC
  obtain ⟨Y1, h1⟩ : ∃ Y, c.bt % 65536 % b = Y := ⟨_, rfl⟩
  obtain ⟨Y2, h2⟩ : ∃ Y, c.rw % 65536 % 4 = Y := ⟨_, rfl⟩
  obtain ⟨Y3, h3⟩ : ∃ Y, c.wd % 65536 % v = Y := ⟨_, rfl⟩
  obtain ⟨Y4, h4⟩ : ∃ Y, c.md % 65536 % 3 = Y := ⟨_, rfl⟩
  rw [h1] at d1 e1 f1
  rw [h2] at d2 e2 f2
  rw [h3] at d3 e3 f3
  rw [h4] at d4 e4 f4
  rw [h1, h2, h3, h4]
  clear h1 h2 h3 h4
  obtain ⟨k0, k1, k2, k3, k4, k5, k6, k7, k8, k9⟩ := h
  have nb : ¬ b = 0 := by omega
  have nv : ¬ v = 0 := by omega
  go_enter Try.func21, Try.ntmps21
  go_wp2
  go_region
  go_wp2
  go_returns
  refine ⟨rfl, ?_⟩
  repeat' (first | (with_reducible exact Below.refl _ _) | (with_reducible assumption) | (with_reducible refine below_over ?_ _ _) | (with_reducible refine Lw.below_alloc ?_ _) | (with_reducible refine Below.drew ?_) | (with_reducible refine below_drewN ?_ _) | (with_reducible refine Below.setCell ?_ ?_ _) | go_size)
theorem rany_at (c : Cfg) (b v : Int) (C : Cfg) (w : World) (h : c.Ok) (hb0 : 1 ≤ b) (hb1 : b ≤ 59) (hv0 : 1 ≤ v) (hv1 : v ≤ 128) (hC : anyC c b v = C) :
    Calls Try.prog 21 #[.agg #[.int .i64 c.bt, .int .i64 c.rw, .int .i64 c.wd, .int .i64 c.md, .int .u64 c.sd], .int .i64 b, .int .i64 v] w fun e w' => e = .returned (.agg #[.int .i64 C.bt, .int .i64 C.rw, .int .i64 C.wd, .int .i64 C.md, .int .u64 C.sd]) ∧ Below w.heap.size w w' := by
  subst hC
  exact rany_any c b v w h hb0 hb1 hv0 hv1
theorem level_of (x m : Int) (h0 : 1 ≤ m) (h1 : m ≤ 65536) : ∃ X L, bits .and .i64 x 65535 = X ∧ 0 ≤ X ∧ X ≤ 65535 ∧ Int.tmod X m = L ∧ 0 ≤ L ∧ L < m := by
  obtain ⟨X, a, b, c, d, e, f⟩ := any_part x m h0 h1
  exact ⟨X, x % 65536 % m, a, b, c, d, e, Int.emod_lt_of_pos _ (by omega)⟩
theorem keys_half {c : Cfg} (h : IsRight c) {l : Int} (h0 : 0 ≤ l) (h1 : l < c.bt) : keys c l = 2 * keys c (l + 1) := by
  rw [keys_yes h h0 (by omega), keys_yes h (by omega) (by omega)]
  have e : (c.bt - l).toNat = (c.bt - (l + 1)).toNat + 1 := by omega
  rw [e, Int.pow_succ, Int.mul_comm]
theorem keys_top {c : Cfg} (h : IsRight c) : keys c c.bt = 1 := by
  rw [keys_yes h (by have := h.1; omega) (by omega)]
  have e : (c.bt - c.bt).toNat = 0 := by omega
  rw [e]
  rfl
theorem exact_up {c : Cfg} (h : IsRight c) {l : Int} (h0 : 0 ≤ l) (h1 : l < c.bt) (he : exactB c l = true) : exactB c (l + 1) = true := by
  have e := of_decide_eq_true he
  have k := keys_half h h0 h1
  have p := keys_pos.2 ⟨h, (by omega : 0 ≤ l + 1), (by omega : l + 1 ≤ c.bt)⟩
  exact decide_eq_true ⟨p, by omega⟩
theorem exact_top {c : Cfg} (h : IsRight c) : exactB c c.bt = true := decide_eq_true ⟨by rw [keys_top h]; omega, by rw [keys_top h]; exact h.2.2.2.2.1⟩
end Go.Proofs.Ytnbmdlkeeabmjaa.Shp
