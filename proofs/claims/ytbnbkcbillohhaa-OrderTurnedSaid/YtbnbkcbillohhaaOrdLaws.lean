/- The statements of layer 5 hold. Printed by wip/gen/ord.py. -/
import Derived.Test.YtbnbkcbillohhaaOrdOne
import Derived.Test.YtbnbkcbillohhaaOrdRef
import Derived.Test.YtbnbkcbillohhaaOrdMath
import Derived.Test.YtbnbkcbillohhaaRow
import Derived.Test.YtbnbkcbillohhaaLaw
import Derived.Test.YtbnbkcbillohhaaBits
import Derived.Deep.LoopGhost
import Derived.Deep.RegionHeld3
import Derived.Deep.DeepCutAuto
import Derived.Deep.QuietTactic
import Derived.BigQuiet
namespace Go.Proofs.Ytbnbkcbillohhaa.Ord
open Go Go.RowKit Lw
set_option linter.unusedVariables false
theorem i64_info : (Try.prog.info? 2).map (fun i => (i.zero, i.size, i.bytes)) = some (some (.int .i64 0), 1, 8) := by kernel_rfl
theorem i64s_u : Try.prog.underlying 22 = some (.slice 2) := by kernel_rfl
theorem k1 : kv [5, 1, 3] 0 = 1 ∧ kb [5, 1, 3] 0 = true := by decide
theorem k2 : kv [5, 1, 3, 9] (((([5, 1, 3, 9] : List Int).length : Int) - 1) / 2) = 3 ∧ kb [5, 1, 3, 9] (((([5, 1, 3, 9] : List Int).length : Int) - 1) / 2) = true := by decide
theorem k3 : kv [5, 1, 3, 9] 2 = 5 ∧ kb [5, 1, 3, 9] 2 = true := by decide
theorem k4 : kb [] (((([] : List Int).length : Int) - 1) / 2) = false := by decide
set_option maxRecDepth 100000 in
theorem shown_any (w : World) : Calls Try.prog 9 #[] w fun e w' => e = .returned (.bool true) ∧ Below w.heap.size w w' := by
  have q1 := k1.1
  have q2 := k1.2
  have q3 := k2.1
  have q4 := k2.2
  have q5 := k3.1
  have q6 := k3.2
  have q7 := k4
  go_enter Try.func9, Try.ntmps9
  go_wp2_with (first
    | (go_at_call 11; (with_reducible refine (min_any _ 3 3 [5, 1, 3] _ (by simp) (by omega) (by decide) (rd3 (by simp [go_sem]) (by simp [go_sem]) (by simp [go_sem])) rfl (by omega) (by unfold In64; decide)).mono ?_); rintro e w' ⟨rfl, hb⟩; obtain ⟨bs, d, rfl⟩ := below_grow hb; clear hb)
    | (go_at_call_of 12 (Value.slice none 0 0); (with_reducible refine (median_any none 0 0 [] _ (by simp) (by omega) (by decide) (rd_nil _ _ _) rfl (by omega) (by unfold In64; decide)).mono ?_); rintro e w' ⟨rfl, hb⟩; obtain ⟨bs, d, rfl⟩ := below_grow hb; clear hb)
    | (go_at_call 12; (with_reducible refine (median_any _ 4 4 [5, 1, 3, 9] _ (by simp) (by omega) (by decide) (rd4 (by simp [go_sem]) (by simp [go_sem]) (by simp [go_sem]) (by simp [go_sem])) rfl (by omega) (by unfold In64; decide)).mono ?_); rintro e w' ⟨rfl, hb⟩; obtain ⟨bs, d, rfl⟩ := below_grow hb; clear hb)
    | (go_at_call 10; (with_reducible refine (kth_any _ 4 4 [5, 1, 3, 9] 2 _ (by simp) (by omega) (by decide) (rd4 (by simp [go_sem]) (by simp [go_sem]) (by simp [go_sem]) (by simp [go_sem])) rfl (by omega) (by unfold In64; decide) (by omega) (by omega)).mono ?_); rintro e w' ⟨rfl, hb⟩; obtain ⟨bs, d, rfl⟩ := below_grow hb; clear hb))
  all_goals go_ret
  all_goals refine ⟨by first | rfl | (simp [*]; done), ?_⟩
  all_goals (repeat' (first | (with_reducible exact Below.refl _ _) | (with_reducible assumption) | (with_reducible refine below_over ?_ _ _) | (with_reducible refine Lw.below_alloc ?_ _) | (with_reducible refine Below.drew ?_) | (with_reducible refine below_drewN ?_ _) | (with_reducible refine Below.setCell ?_ ?_ _) | go_size))
theorem lst_int64_c : Try.prog.cellsOf 2 = 1 := by kernel_rfl
theorem open_list_int64 {H : Type} {enc : TypeId × Value → H} {W : World} {v : Value} {d : DataW H} {p : List MemPlace} {base : Nat} (hv : Value.okWide Try.prog W .any base 22 v)
    (h : DataW.Trod enc Try.prog W 0 (fun _ => true) true 22 v d p) :
    ∃ (A : Option Addr) (n cap : Nat) (zs : List Int), v = .slice A n cap ∧ (A = none → n = 0 ∧ cap = 0) ∧ n ≤ cap ∧ cap ≤ maxLen ∧ Rd .i64 W A zs ∧ zs.length = n ∧ (∀ v ∈ zs, -9223372036854775808 ≤ v ∧ v ≤ 9223372036854775807) := by
  obtain ⟨a0, len, cap, rfl⟩ := Go.WideShapes.okWide_slice Try.underlying22 hv
  obtain ⟨fuel, hf⟩ := h
  rcases Go.ChangeShapes.open_ints Try.underlying22 Try.underlying2 lst_int64_c hf with ⟨hcs, _⟩ | ⟨a, len', cap', zs, hcs, _, hl, hm, hz, _, hcell, hwz⟩
  · simp [Value.cells] at hcs
    obtain ⟨rfl, rfl, rfl⟩ := hcs
    exact ⟨none, 0, 0, [], rfl, fun _ => ⟨rfl, rfl⟩, Nat.le_refl _, by simp, rd_nil _ _ _, rfl, fun v h => by simp at h⟩
  · simp [Value.cells] at hcs
    obtain ⟨rfl, rfl, rfl⟩ := hcs
    have hz2 : zs.length = cap := by simpa using hz
    refine ⟨some a, len, cap, zs.take len, rfl, (fun h => by cases h), hl, hm, ?_, by simp; omega, ?_⟩
    · intro k v hk
      rw [List.getElem?_take] at hk
      split at hk
      · refine ⟨a, rfl, ?_⟩
        rw [hcell k (by omega)]
        simp [hk]
      · cases hk
    · intro v hv
      exact Lw.wf_i64 (hwz v (List.mem_of_mem_take hv))
theorem ret_bool' {a : Bool} (h : a = true) : Ending.returned (.bool a) = .returned (.bool true) := by rw [h]
set_option maxRecDepth 100000 in
set_option maxHeartbeats 4000000 in
theorem tells_any (A : Option Addr) (n cap : Nat) (zs : List Int) (k : Int) (w : World) (hA : A = none → n = 0 ∧ cap = 0) (hn : n ≤ cap) (hcap : cap ≤ maxLen) (hr : Rd .i64 w A zs) (hl : zs.length = n) (hz : In64 zs) (k0 : -9223372036854775808 ≤ k) (k1 : k ≤ 9223372036854775807) :
    Calls Try.prog 3 #[.slice A n cap, .int .i64 k] w fun e w' => e = .returned (.bool true) ∧ Below w.heap.size w w' := by
  unfold maxLen at hcap
  obtain ⟨i0, hi, hz0, hz1, hz2⟩ := info_parts i64_info
  obtain ⟨m, hmin⟩ : ∃ m : Nat, (if (200 : Int) < n then 200 else (n : Int)) = m := ⟨min n 200, by split <;> omega⟩
  have hm1 : m ≤ 200 := by split at hmin <;> omega
  have hm2 : m ≤ n := by split at hmin <;> omega
  have hm3 : m ≤ zs.length := by omega
  have hA2 : A = none → m = 0 ∧ cap = 0 := fun h => ⟨by have := (hA h).1; omega, (hA h).2⟩
  have HR := Lib.hid hr
  have HZ := Lib.hid hz
  clear hr hl hz hA
  go_enter Try.func3, Try.ntmps3
  go_wp2_with (first
    | (go_at_call 9; (with_reducible refine (shown_any _).mono ?_); rintro e wS ⟨rfl, hbS⟩)
    | (at_builtin; go_must (refine app_any .i64 rfl _ _ 22 rfl w.heap.size 2 i0 8 i64s_u hi hz0 hz1 hz2 (.slice (some ⟨wS.heap.size, 0, none⟩) 0 0) 0 [] rfl (own_empty wS _ _ _ hbS.size) (fun h => by cases h) A m cap (zs.take m) rfl hA2 (by simp; omega) ((HR.out.take m).up (Lw.below_alloc hbS _)) (by unfold maxLen; omega) (by omega) (by have := hbS.size; simp; omega) ?_); intro A2 cap2 w2 hown2 hgrow2 hrd2 hcap2 hcap3; have hb2 := app_below hgrow2 (Nat.le_refl _); rw [List.nil_append] at hrd2; clear hown2 hgrow2; (try simp only [Nat.zero_add] at hcap2); (try simp only [Nat.zero_add])))
  obtain ⟨L, hL⟩ : ∃ L : List Int, L = zs.take m := ⟨_, rfl⟩
  rw [← hL] at hrd2
  have hlen : L.length = m := by rw [hL]; simp; omega
  have HLZ : Hid (In64 L) := Lib.hid (by rw [hL]; exact in64_take HZ.out m)
  have HLEN := Lib.hid hlen
  have HB2 := Lib.hid (below_call (hbS) hb2 (Nat.le_refl _))
  have HRD : Hid (∀ w', Below w2.heap.size w2 w' → Rd .i64 w' (some A2) L) := Lib.hid (fun w' h => hrd2.up h)
  unfold maxLen at hcap3
  clear hL hlen hrd2 hbS hb2 hmin HR HZ
  go_wp2_with (first
    | (go_at_call 10; (with_reducible refine (kth_any (some A2) m cap2 L (k) _ (by simp) hcap2 (by unfold maxLen; omega) (HRD.out _ (by repeat' (first | (with_reducible exact Below.refl _ _) | (with_reducible assumption) | (with_reducible refine below_over ?_ _ _) | (with_reducible refine Lw.below_alloc ?_ _) | (with_reducible refine Below.drew ?_) | (with_reducible refine below_drewN ?_ _) | (with_reducible refine Below.setCell ?_ ?_ _) | go_size))) HLEN.out (by omega) HLZ.out (by omega) (by omega)).mono ?_); rintro e w' ⟨rfl, hb⟩; obtain ⟨bs, d, rfl⟩ := below_grow hb; clear hb)
    | (go_at_call 11; (with_reducible refine (min_any (some A2) m cap2 L _ (by simp) hcap2 (by unfold maxLen; omega) (HRD.out _ (by repeat' (first | (with_reducible exact Below.refl _ _) | (with_reducible assumption) | (with_reducible refine below_over ?_ _ _) | (with_reducible refine Lw.below_alloc ?_ _) | (with_reducible refine Below.drew ?_) | (with_reducible refine below_drewN ?_ _) | (with_reducible refine Below.setCell ?_ ?_ _) | go_size))) HLEN.out (by omega) HLZ.out).mono ?_); rintro e w' ⟨rfl, hb⟩; obtain ⟨bs, d, rfl⟩ := below_grow hb; clear hb)
    | (go_at_call 12; (with_reducible refine (median_any (some A2) m cap2 L _ (by simp) hcap2 (by unfold maxLen; omega) (HRD.out _ (by repeat' (first | (with_reducible exact Below.refl _ _) | (with_reducible assumption) | (with_reducible refine below_over ?_ _ _) | (with_reducible refine Lw.below_alloc ?_ _) | (with_reducible refine Below.drew ?_) | (with_reducible refine below_drewN ?_ _) | (with_reducible refine Below.setCell ?_ ?_ _) | go_size))) HLEN.out (by omega) HLZ.out).mono ?_); rintro e w' ⟨rfl, hb⟩; obtain ⟨bs, d, rfl⟩ := below_grow hb; clear hb)
    | (go_at_call 13; (with_reducible refine (rkth_any (some A2) m cap2 L (k) _ (by simp) hcap2 (by unfold maxLen; omega) (HRD.out _ (by repeat' (first | (with_reducible exact Below.refl _ _) | (with_reducible assumption) | (with_reducible refine below_over ?_ _ _) | (with_reducible refine Lw.below_alloc ?_ _) | (with_reducible refine Below.drew ?_) | (with_reducible refine below_drewN ?_ _) | (with_reducible refine Below.setCell ?_ ?_ _) | go_size))) HLEN.out (by omega) HLZ.out (by omega) (by omega)).mono ?_); rintro e w' ⟨rfl, hb⟩; obtain ⟨bs, d, rfl⟩ := below_grow hb; clear hb)
    | (go_at_call 14; (with_reducible refine (rmin_any (some A2) m cap2 L _ (by simp) hcap2 (by unfold maxLen; omega) (HRD.out _ (by repeat' (first | (with_reducible exact Below.refl _ _) | (with_reducible assumption) | (with_reducible refine below_over ?_ _ _) | (with_reducible refine Lw.below_alloc ?_ _) | (with_reducible refine Below.drew ?_) | (with_reducible refine below_drewN ?_ _) | (with_reducible refine Below.setCell ?_ ?_ _) | go_size))) HLEN.out (by omega) HLZ.out).mono ?_); rintro e w' ⟨rfl, hb⟩; obtain ⟨bs, d, rfl⟩ := below_grow hb; clear hb)
    | (go_at_call 15; (with_reducible refine (rmedian_any (some A2) m cap2 L _ (by simp) hcap2 (by unfold maxLen; omega) (HRD.out _ (by repeat' (first | (with_reducible exact Below.refl _ _) | (with_reducible assumption) | (with_reducible refine below_over ?_ _ _) | (with_reducible refine Lw.below_alloc ?_ _) | (with_reducible refine Below.drew ?_) | (with_reducible refine below_drewN ?_ _) | (with_reducible refine Below.setCell ?_ ?_ _) | go_size))) HLEN.out (by omega) HLZ.out).mono ?_); rintro e w' ⟨rfl, hb⟩; obtain ⟨bs, d, rfl⟩ := below_grow hb; clear hb))
  all_goals go_ret
  all_goals refine ⟨rfl, ?_⟩
  all_goals (repeat' (first | (with_reducible exact Below.refl _ _) | (with_reducible assumption) | (with_reducible exact HB2.out) | (with_reducible refine below_over ?_ _ _) | (with_reducible refine Lw.below_alloc ?_ _) | (with_reducible refine Below.drew ?_) | (with_reducible refine below_drewN ?_ _) | (with_reducible refine Below.setCell ?_ ?_ _) | go_size))
namespace orderTells
open Go.ChangeShapes Go.WideShapes Go.ChangeAt Go.Joins
set_option maxRecDepth 100000 in
theorem lifted (os : Os) (started : os.Started) (H : Type) (enc : TypeId × Value → H) :
    ReturnsInHanded {} Try.checked os 3 .any (Rows.orderTellsSpec.pre6 enc Try.prog Try.f3 Rows.orderTellsRow.domain false) (Rows.orderTellsSpec.post enc Try.prog Try.f3 false true false false) := by
  refine Lw.lifted (C := Try.checked) (B := 4) (by kernel_rfl) os started (by kernel_rfl) Try.func3
    (ChangeSpec.witness6 (enc := enc) (C := Try.checked) false ⟨#[], #[.slice none 0 0, .int .i64 0], []⟩ 8 (by kernel_rfl) (by kernel_rfl) (by kernel_rfl) (by kernel_rfl)) rfl Try.underlying4 (by kernel_rfl) (by kernel_rfl) (by kernel_rfl) ?_ ?_
  · intro ds h
    rw [Try.params3] at h
    match ds, h with
    | [_, _], _ => rfl
  · intro W base args ds p hval hA
    rw [Try.params3] at hA hval
    obtain ⟨v0, vs0, d0, ds0, p0, q0, hargs, rfl, rfl, h0, r0⟩ := trodAll_cons hA
    obtain ⟨v1, vs1, d1, ds1, p1, q1, rfl, rfl, rfl, h1, r1⟩ := trodAll_cons r0
    obtain ⟨rfl, rfl, rfl⟩ := trodAll_nil r1
    obtain rfl : args = #[v0, v1] := by cases args; simp_all
    obtain ⟨A0, n0, c0, zs0, rfl, hA0, hn0, hc0, hr0, hl0, hz0⟩ := open_list_int64 (hval 0 22 v0 rfl rfl) h0
    obtain ⟨a1, rfl, rfl, rfl, w1⟩ := open_int Try.underlying3 (hval 1 3 v1 rfl rfl) h1
    have b1 := Lw.wf_i64 w1
    exact tells_any A0 n0 c0 zs0 a1 W hA0 hn0 hc0 hr0 hl0 hz0 b1.1 b1.2
theorem over : Rows.orderTellsRow.holds Try.pinned (OpenSpec.ofChange Rows.orderTellsSpec) :=
  OpenClaim.holds_of_wide 3 Try.f3 rfl rfl rfl rfl rfl rfl rfl ⟨rfl, rfl, rfl, rfl, rfl⟩ rfl rfl rfl rfl rfl (by kernel_rfl) Try.func3 (by kernel_rfl)
    (of_decide_eq_true (by kernel_rfl)) (by unfold Func.isWrapper; first | (rw [if_pos (by decide +kernel)]; kernel_rfl) | (rw [if_neg (by decide +kernel)]; exact ⟨rfl, rfl⟩))
    (fun os started H enc _ => lifted os started H enc)
theorem proved : Rows.OrderTellsSaid :=
  over
#print axioms proved
end orderTells
set_option maxRecDepth 100000 in
set_option maxHeartbeats 4000000 in
theorem near_lt (A : Option Addr) (n cap : Nat) (zs : List Int) (a b : Int) (w : World) (hA : A = none → n = 0 ∧ cap = 0) (hn : n ≤ cap) (hcap : cap ≤ maxLen) (hr : Rd .i64 w A zs) (hl : zs.length = n) (hz : In64 zs) (a0 : -9223372036854775808 ≤ a) (a1 : a ≤ 9223372036854775807) (b0 : -9223372036854775808 ≤ b) (b1 : b ≤ 9223372036854775807) (hab : a < b) :
    Calls Try.prog 4 #[.slice A n cap, .int .i64 a, .int .i64 b] w fun e w' => e = .returned (.bool true) ∧ Below w.heap.size w w' := by
  unfold maxLen at hcap
  obtain ⟨i0, hi, hz0, hz1, hz2⟩ := info_parts i64_info
  obtain ⟨m, hmin⟩ : ∃ m : Nat, (if (200 : Int) < n then 200 else (n : Int)) = m := ⟨min n 200, by split <;> omega⟩
  have hm1 : m ≤ 200 := by split at hmin <;> omega
  have hm2 : m ≤ n := by split at hmin <;> omega
  have hm3 : m ≤ zs.length := by omega
  have hA2 : A = none → m = 0 ∧ cap = 0 := fun h => ⟨by have := (hA h).1; omega, (hA h).2⟩
  have HR := Lib.hid hr
  have HZ := Lib.hid hz
  clear hr hl hz hA
  go_enter Try.func4, Try.ntmps4
  go_wp2_with (first
    | (go_at_call 9; (with_reducible refine (shown_any _).mono ?_); rintro e wS ⟨rfl, hbS⟩)
    | (at_builtin; go_must (refine app_any .i64 rfl _ _ 22 rfl w.heap.size 2 i0 8 i64s_u hi hz0 hz1 hz2 (.slice (some ⟨wS.heap.size, 0, none⟩) 0 0) 0 [] rfl (own_empty wS _ _ _ hbS.size) (fun h => by cases h) A m cap (zs.take m) rfl hA2 (by simp; omega) ((HR.out.take m).up (Lw.below_alloc hbS _)) (by unfold maxLen; omega) (by omega) (by have := hbS.size; simp; omega) ?_); intro A2 cap2 w2 hown2 hgrow2 hrd2 hcap2 hcap3; have hb2 := app_below hgrow2 (Nat.le_refl _); rw [List.nil_append] at hrd2; clear hown2 hgrow2; (try simp only [Nat.zero_add] at hcap2); (try simp only [Nat.zero_add])))
  obtain ⟨L, hL⟩ : ∃ L : List Int, L = zs.take m := ⟨_, rfl⟩
  rw [← hL] at hrd2
  have hlen : L.length = m := by rw [hL]; simp; omega
  have HLZ : Hid (In64 L) := Lib.hid (by rw [hL]; exact in64_take HZ.out m)
  have HLEN := Lib.hid hlen
  have HB2 := Lib.hid (below_call (hbS) hb2 (Nat.le_refl _))
  have HRD : Hid (∀ w', Below w2.heap.size w2 w' → Rd .i64 w' (some A2) L) := Lib.hid (fun w' h => hrd2.up h)
  unfold maxLen at hcap3
  clear hL hlen hrd2 hbS hb2 hmin HR HZ
  have HA2 := HRD.out w2 (Below.refl _ _)
  have HC := Lib.hid HA2
  clear HA2
  go_loop [10, 11] (fun c i => ∃ k : Nat, k ≤ m ∧ i = .int .i64 k ∧ c = .int .i64 (near (L.take k) a b : Nat)) (fun _ i => m - (intOf i).toNat)
  case atStart => exact ⟨0, Nat.zero_le _, rfl, rfl⟩
  case round =>
    obtain ⟨k, hk, rfl, rfl⟩ := hrel
    have hnl := near_len L a b k
    by_cases hlt : k < m
    · have hkl : k < L.length := by have := HLEN.out; omega
      obtain ⟨v, hv⟩ : ∃ v, L[k]? = some v := ⟨_, List.getElem?_eq_getElem hkl⟩
      have hc := HC.out.at hv
      have hvb := HLZ.out.at hv
      have HN := Lib.hid (near_next L a b k v hv)
      clear hv
      by_cases h1 : a ≤ v
      · by_cases h2 : v ≤ b
        · go_wp2
          go_round
          case rel => exact ⟨k + 1, by omega, by go_num, by rw [HN.out, if_pos ⟨h1, h2⟩]; go_num⟩
          case measure => simp [intOf]; omega
        · go_wp2
          go_round
          case rel => exact ⟨k + 1, by omega, by go_num, by rw [HN.out, if_neg (fun h => h2 h.2)]; go_num⟩
          case measure => simp [intOf]; omega
      · go_wp2
        go_round
        case rel => exact ⟨k + 1, by omega, by go_num, by rw [HN.out, if_neg (fun h => h1 h.1)]; go_num⟩
        case measure => simp [intOf]; omega
    · have e : k = m := by omega
      subst e
      rw [List.take_of_length_le (by have := HLEN.out; omega)] at hnl ⊢
      have hm := near_median2 L a b
      have HM := Lib.hid hm
      clear hm
      by_cases h2 : 2 * (near L a b : Int) ≤ k
      · go_wp2_with (go_at_call 12; (with_reducible refine (median_any (some A2) k cap2 L _ (by simp) hcap2 (by unfold maxLen; omega) (HRD.out _ (by repeat' (first | (with_reducible exact Below.refl _ _) | (with_reducible assumption) | (with_reducible refine below_over ?_ _ _) | (with_reducible refine Lw.below_alloc ?_ _) | (with_reducible refine Below.drew ?_) | (with_reducible refine below_drewN ?_ _) | (with_reducible refine Below.setCell ?_ ?_ _) | go_size))) HLEN.out (by omega) HLZ.out).mono ?_); rintro e w' ⟨rfl, hb⟩; obtain ⟨bs, d, rfl⟩ := below_grow hb; clear hb)
        all_goals go_ret
        all_goals refine ⟨ret_bool' (by first | (simp [*]; done) | (simp [*]; omega) | (simp; omega)), ?_⟩
        all_goals (repeat' (first | (with_reducible exact Below.refl _ _) | (with_reducible assumption) | (with_reducible exact HB2.out) | (with_reducible refine below_over ?_ _ _) | (with_reducible refine Lw.below_alloc ?_ _) | (with_reducible refine Below.drew ?_) | (with_reducible refine below_drewN ?_ _) | (with_reducible refine Below.setCell ?_ ?_ _) | go_size))

      · obtain ⟨h3, h4, h5⟩ := HM.out (by have := HLEN.out; omega)
        go_wp2_with (go_at_call 12; (with_reducible refine (median_any (some A2) k cap2 L _ (by simp) hcap2 (by unfold maxLen; omega) (HRD.out _ (by repeat' (first | (with_reducible exact Below.refl _ _) | (with_reducible assumption) | (with_reducible refine below_over ?_ _ _) | (with_reducible refine Lw.below_alloc ?_ _) | (with_reducible refine Below.drew ?_) | (with_reducible refine below_drewN ?_ _) | (with_reducible refine Below.setCell ?_ ?_ _) | go_size))) HLEN.out (by omega) HLZ.out).mono ?_); rintro e w' ⟨rfl, hb⟩; obtain ⟨bs, d, rfl⟩ := below_grow hb; clear hb)
        all_goals go_ret
        all_goals refine ⟨ret_bool' (by first | (simp [*]; done) | (simp [*]; omega) | (simp; omega)), ?_⟩
        all_goals (repeat' (first | (with_reducible exact Below.refl _ _) | (with_reducible assumption) | (with_reducible exact HB2.out) | (with_reducible refine below_over ?_ _ _) | (with_reducible refine Lw.below_alloc ?_ _) | (with_reducible refine Below.drew ?_) | (with_reducible refine below_drewN ?_ _) | (with_reducible refine Below.setCell ?_ ?_ _) | go_size))

set_option maxRecDepth 100000 in
set_option maxHeartbeats 4000000 in
theorem near_eq (A : Option Addr) (n cap : Nat) (zs : List Int) (a : Int) (w : World) (hA : A = none → n = 0 ∧ cap = 0) (hn : n ≤ cap) (hcap : cap ≤ maxLen) (hr : Rd .i64 w A zs) (hl : zs.length = n) (hz : In64 zs) (a0 : -9223372036854775808 ≤ a) (a1 : a ≤ 9223372036854775807) :
    Calls Try.prog 4 #[.slice A n cap, .int .i64 a, .int .i64 a] w fun e w' => e = .returned (.bool true) ∧ Below w.heap.size w w' := by
  unfold maxLen at hcap
  obtain ⟨i0, hi, hz0, hz1, hz2⟩ := info_parts i64_info
  obtain ⟨m, hmin⟩ : ∃ m : Nat, (if (200 : Int) < n then 200 else (n : Int)) = m := ⟨min n 200, by split <;> omega⟩
  have hm1 : m ≤ 200 := by split at hmin <;> omega
  have hm2 : m ≤ n := by split at hmin <;> omega
  have hm3 : m ≤ zs.length := by omega
  have hA2 : A = none → m = 0 ∧ cap = 0 := fun h => ⟨by have := (hA h).1; omega, (hA h).2⟩
  have HR := Lib.hid hr
  have HZ := Lib.hid hz
  clear hr hl hz hA
  go_enter Try.func4, Try.ntmps4
  go_wp2_with (first
    | (go_at_call 9; (with_reducible refine (shown_any _).mono ?_); rintro e wS ⟨rfl, hbS⟩)
    | (at_builtin; go_must (refine app_any .i64 rfl _ _ 22 rfl w.heap.size 2 i0 8 i64s_u hi hz0 hz1 hz2 (.slice (some ⟨wS.heap.size, 0, none⟩) 0 0) 0 [] rfl (own_empty wS _ _ _ hbS.size) (fun h => by cases h) A m cap (zs.take m) rfl hA2 (by simp; omega) ((HR.out.take m).up (Lw.below_alloc hbS _)) (by unfold maxLen; omega) (by omega) (by have := hbS.size; simp; omega) ?_); intro A2 cap2 w2 hown2 hgrow2 hrd2 hcap2 hcap3; have hb2 := app_below hgrow2 (Nat.le_refl _); rw [List.nil_append] at hrd2; clear hown2 hgrow2; (try simp only [Nat.zero_add] at hcap2); (try simp only [Nat.zero_add])))
  obtain ⟨L, hL⟩ : ∃ L : List Int, L = zs.take m := ⟨_, rfl⟩
  rw [← hL] at hrd2
  have hlen : L.length = m := by rw [hL]; simp; omega
  have HLZ : Hid (In64 L) := Lib.hid (by rw [hL]; exact in64_take HZ.out m)
  have HLEN := Lib.hid hlen
  have HB2 := Lib.hid (below_call (hbS) hb2 (Nat.le_refl _))
  have HRD : Hid (∀ w', Below w2.heap.size w2 w' → Rd .i64 w' (some A2) L) := Lib.hid (fun w' h => hrd2.up h)
  unfold maxLen at hcap3
  clear hL hlen hrd2 hbS hb2 hmin HR HZ
  have HA2 := HRD.out w2 (Below.refl _ _)
  have HC := Lib.hid HA2
  clear HA2
  go_loop [10, 11] (fun c i => ∃ k : Nat, k ≤ m ∧ i = .int .i64 k ∧ c = .int .i64 (near (L.take k) a a : Nat)) (fun _ i => m - (intOf i).toNat)
  case atStart => exact ⟨0, Nat.zero_le _, rfl, rfl⟩
  case round =>
    obtain ⟨k, hk, rfl, rfl⟩ := hrel
    have hnl := near_len L a a k
    by_cases hlt : k < m
    · have hkl : k < L.length := by have := HLEN.out; omega
      obtain ⟨v, hv⟩ : ∃ v, L[k]? = some v := ⟨_, List.getElem?_eq_getElem hkl⟩
      have hc := HC.out.at hv
      have hvb := HLZ.out.at hv
      have HN := Lib.hid (near_next L a a k v hv)
      clear hv
      by_cases h1 : a ≤ v
      · by_cases h2 : v ≤ a
        · go_wp2
          go_round
          case rel => exact ⟨k + 1, by omega, by go_num, by rw [HN.out, if_pos ⟨h1, h2⟩]; go_num⟩
          case measure => simp [intOf]; omega
        · go_wp2
          go_round
          case rel => exact ⟨k + 1, by omega, by go_num, by rw [HN.out, if_neg (fun h => h2 h.2)]; go_num⟩
          case measure => simp [intOf]; omega
      · go_wp2
        go_round
        case rel => exact ⟨k + 1, by omega, by go_num, by rw [HN.out, if_neg (fun h => h1 h.1)]; go_num⟩
        case measure => simp [intOf]; omega
    · have e : k = m := by omega
      subst e
      rw [List.take_of_length_le (by have := HLEN.out; omega)] at hnl ⊢
      have hm := near_median2 L a a
      have HM := Lib.hid hm
      clear hm
      by_cases h2 : 2 * (near L a a : Int) ≤ k
      · go_wp2_with (go_at_call 12; (with_reducible refine (median_any (some A2) k cap2 L _ (by simp) hcap2 (by unfold maxLen; omega) (HRD.out _ (by repeat' (first | (with_reducible exact Below.refl _ _) | (with_reducible assumption) | (with_reducible refine below_over ?_ _ _) | (with_reducible refine Lw.below_alloc ?_ _) | (with_reducible refine Below.drew ?_) | (with_reducible refine below_drewN ?_ _) | (with_reducible refine Below.setCell ?_ ?_ _) | go_size))) HLEN.out (by omega) HLZ.out).mono ?_); rintro e w' ⟨rfl, hb⟩; obtain ⟨bs, d, rfl⟩ := below_grow hb; clear hb)
        all_goals go_ret
        all_goals refine ⟨ret_bool' (by first | (simp [*]; done) | (simp [*]; omega) | (simp; omega)), ?_⟩
        all_goals (repeat' (first | (with_reducible exact Below.refl _ _) | (with_reducible assumption) | (with_reducible exact HB2.out) | (with_reducible refine below_over ?_ _ _) | (with_reducible refine Lw.below_alloc ?_ _) | (with_reducible refine Below.drew ?_) | (with_reducible refine below_drewN ?_ _) | (with_reducible refine Below.setCell ?_ ?_ _) | go_size))

      · obtain ⟨h3, h4, h5⟩ := HM.out (by have := HLEN.out; omega)
        go_wp2_with (go_at_call 12; (with_reducible refine (median_any (some A2) k cap2 L _ (by simp) hcap2 (by unfold maxLen; omega) (HRD.out _ (by repeat' (first | (with_reducible exact Below.refl _ _) | (with_reducible assumption) | (with_reducible refine below_over ?_ _ _) | (with_reducible refine Lw.below_alloc ?_ _) | (with_reducible refine Below.drew ?_) | (with_reducible refine below_drewN ?_ _) | (with_reducible refine Below.setCell ?_ ?_ _) | go_size))) HLEN.out (by omega) HLZ.out).mono ?_); rintro e w' ⟨rfl, hb⟩; obtain ⟨bs, d, rfl⟩ := below_grow hb; clear hb)
        all_goals go_ret
        all_goals refine ⟨ret_bool' (by first | (simp [*]; done) | (simp [*]; omega) | (simp; omega)), ?_⟩
        all_goals (repeat' (first | (with_reducible exact Below.refl _ _) | (with_reducible assumption) | (with_reducible exact HB2.out) | (with_reducible refine below_over ?_ _ _) | (with_reducible refine Lw.below_alloc ?_ _) | (with_reducible refine Below.drew ?_) | (with_reducible refine below_drewN ?_ _) | (with_reducible refine Below.setCell ?_ ?_ _) | go_size))

set_option maxRecDepth 100000 in
set_option maxHeartbeats 4000000 in
theorem near_gt (A : Option Addr) (n cap : Nat) (zs : List Int) (a b : Int) (w : World) (hA : A = none → n = 0 ∧ cap = 0) (hn : n ≤ cap) (hcap : cap ≤ maxLen) (hr : Rd .i64 w A zs) (hl : zs.length = n) (hz : In64 zs) (a0 : -9223372036854775808 ≤ a) (a1 : a ≤ 9223372036854775807) (b0 : -9223372036854775808 ≤ b) (b1 : b ≤ 9223372036854775807) (hab : b < a) :
    Calls Try.prog 4 #[.slice A n cap, .int .i64 a, .int .i64 b] w fun e w' => e = .returned (.bool true) ∧ Below w.heap.size w w' := by
  unfold maxLen at hcap
  obtain ⟨i0, hi, hz0, hz1, hz2⟩ := info_parts i64_info
  obtain ⟨m, hmin⟩ : ∃ m : Nat, (if (200 : Int) < n then 200 else (n : Int)) = m := ⟨min n 200, by split <;> omega⟩
  have hm1 : m ≤ 200 := by split at hmin <;> omega
  have hm2 : m ≤ n := by split at hmin <;> omega
  have hm3 : m ≤ zs.length := by omega
  have hA2 : A = none → m = 0 ∧ cap = 0 := fun h => ⟨by have := (hA h).1; omega, (hA h).2⟩
  have HR := Lib.hid hr
  have HZ := Lib.hid hz
  clear hr hl hz hA
  go_enter Try.func4, Try.ntmps4
  go_wp2_with (first
    | (go_at_call 9; (with_reducible refine (shown_any _).mono ?_); rintro e wS ⟨rfl, hbS⟩)
    | (at_builtin; go_must (refine app_any .i64 rfl _ _ 22 rfl w.heap.size 2 i0 8 i64s_u hi hz0 hz1 hz2 (.slice (some ⟨wS.heap.size, 0, none⟩) 0 0) 0 [] rfl (own_empty wS _ _ _ hbS.size) (fun h => by cases h) A m cap (zs.take m) rfl hA2 (by simp; omega) ((HR.out.take m).up (Lw.below_alloc hbS _)) (by unfold maxLen; omega) (by omega) (by have := hbS.size; simp; omega) ?_); intro A2 cap2 w2 hown2 hgrow2 hrd2 hcap2 hcap3; have hb2 := app_below hgrow2 (Nat.le_refl _); rw [List.nil_append] at hrd2; clear hown2 hgrow2; (try simp only [Nat.zero_add] at hcap2); (try simp only [Nat.zero_add])))
  obtain ⟨L, hL⟩ : ∃ L : List Int, L = zs.take m := ⟨_, rfl⟩
  rw [← hL] at hrd2
  have hlen : L.length = m := by rw [hL]; simp; omega
  have HLZ : Hid (In64 L) := Lib.hid (by rw [hL]; exact in64_take HZ.out m)
  have HLEN := Lib.hid hlen
  have HB2 := Lib.hid (below_call (hbS) hb2 (Nat.le_refl _))
  have HRD : Hid (∀ w', Below w2.heap.size w2 w' → Rd .i64 w' (some A2) L) := Lib.hid (fun w' h => hrd2.up h)
  unfold maxLen at hcap3
  clear hL hlen hrd2 hbS hb2 hmin HR HZ
  have HA2 := HRD.out w2 (Below.refl _ _)
  have HC := Lib.hid HA2
  clear HA2
  go_loop [10, 11] (fun c i => ∃ k : Nat, k ≤ m ∧ i = .int .i64 k ∧ c = .int .i64 (near (L.take k) b a : Nat)) (fun _ i => m - (intOf i).toNat)
  case atStart => exact ⟨0, Nat.zero_le _, rfl, rfl⟩
  case round =>
    obtain ⟨k, hk, rfl, rfl⟩ := hrel
    have hnl := near_len L b a k
    by_cases hlt : k < m
    · have hkl : k < L.length := by have := HLEN.out; omega
      obtain ⟨v, hv⟩ : ∃ v, L[k]? = some v := ⟨_, List.getElem?_eq_getElem hkl⟩
      have hc := HC.out.at hv
      have hvb := HLZ.out.at hv
      have HN := Lib.hid (near_next L b a k v hv)
      clear hv
      by_cases h1 : b ≤ v
      · by_cases h2 : v ≤ a
        · go_wp2
          go_round
          case rel => exact ⟨k + 1, by omega, by go_num, by rw [HN.out, if_pos ⟨h1, h2⟩]; go_num⟩
          case measure => simp [intOf]; omega
        · go_wp2
          go_round
          case rel => exact ⟨k + 1, by omega, by go_num, by rw [HN.out, if_neg (fun h => h2 h.2)]; go_num⟩
          case measure => simp [intOf]; omega
      · go_wp2
        go_round
        case rel => exact ⟨k + 1, by omega, by go_num, by rw [HN.out, if_neg (fun h => h1 h.1)]; go_num⟩
        case measure => simp [intOf]; omega
    · have e : k = m := by omega
      subst e
      rw [List.take_of_length_le (by have := HLEN.out; omega)] at hnl ⊢
      have hm := near_median2 L b a
      have HM := Lib.hid hm
      clear hm
      by_cases h2 : 2 * (near L b a : Int) ≤ k
      · go_wp2_with (go_at_call 12; (with_reducible refine (median_any (some A2) k cap2 L _ (by simp) hcap2 (by unfold maxLen; omega) (HRD.out _ (by repeat' (first | (with_reducible exact Below.refl _ _) | (with_reducible assumption) | (with_reducible refine below_over ?_ _ _) | (with_reducible refine Lw.below_alloc ?_ _) | (with_reducible refine Below.drew ?_) | (with_reducible refine below_drewN ?_ _) | (with_reducible refine Below.setCell ?_ ?_ _) | go_size))) HLEN.out (by omega) HLZ.out).mono ?_); rintro e w' ⟨rfl, hb⟩; obtain ⟨bs, d, rfl⟩ := below_grow hb; clear hb)
        all_goals go_ret
        all_goals refine ⟨ret_bool' (by first | (simp [*]; done) | (simp [*]; omega) | (simp; omega)), ?_⟩
        all_goals (repeat' (first | (with_reducible exact Below.refl _ _) | (with_reducible assumption) | (with_reducible exact HB2.out) | (with_reducible refine below_over ?_ _ _) | (with_reducible refine Lw.below_alloc ?_ _) | (with_reducible refine Below.drew ?_) | (with_reducible refine below_drewN ?_ _) | (with_reducible refine Below.setCell ?_ ?_ _) | go_size))

      · obtain ⟨h3, h4, h5⟩ := HM.out (by have := HLEN.out; omega)
        go_wp2_with (go_at_call 12; (with_reducible refine (median_any (some A2) k cap2 L _ (by simp) hcap2 (by unfold maxLen; omega) (HRD.out _ (by repeat' (first | (with_reducible exact Below.refl _ _) | (with_reducible assumption) | (with_reducible refine below_over ?_ _ _) | (with_reducible refine Lw.below_alloc ?_ _) | (with_reducible refine Below.drew ?_) | (with_reducible refine below_drewN ?_ _) | (with_reducible refine Below.setCell ?_ ?_ _) | go_size))) HLEN.out (by omega) HLZ.out).mono ?_); rintro e w' ⟨rfl, hb⟩; obtain ⟨bs, d, rfl⟩ := below_grow hb; clear hb)
        all_goals go_ret
        all_goals refine ⟨ret_bool' (by first | (simp [*]; done) | (simp [*]; omega) | (simp; omega)), ?_⟩
        all_goals (repeat' (first | (with_reducible exact Below.refl _ _) | (with_reducible assumption) | (with_reducible exact HB2.out) | (with_reducible refine below_over ?_ _ _) | (with_reducible refine Lw.below_alloc ?_ _) | (with_reducible refine Below.drew ?_) | (with_reducible refine below_drewN ?_ _) | (with_reducible refine Below.setCell ?_ ?_ _) | go_size))

theorem near_any (A : Option Addr) (n cap : Nat) (zs : List Int) (a b : Int) (w : World) (hA : A = none → n = 0 ∧ cap = 0) (hn : n ≤ cap) (hcap : cap ≤ maxLen) (hr : Rd .i64 w A zs) (hl : zs.length = n) (hz : In64 zs) (a0 : -9223372036854775808 ≤ a) (a1 : a ≤ 9223372036854775807) (b0 : -9223372036854775808 ≤ b) (b1 : b ≤ 9223372036854775807) :
    Calls Try.prog 4 #[.slice A n cap, .int .i64 a, .int .i64 b] w fun e w' => e = .returned (.bool true) ∧ Below w.heap.size w w' := by
  by_cases h1 : a < b
  · exact near_lt A n cap zs a b w hA hn hcap hr hl hz a0 a1 b0 b1 h1
  · by_cases h2 : b < a
    · exact near_gt A n cap zs a b w hA hn hcap hr hl hz a0 a1 b0 b1 h2
    · obtain rfl : a = b := by omega
      exact near_eq A n cap zs a w hA hn hcap hr hl hz a0 a1
namespace orderNear
open Go.ChangeShapes Go.WideShapes Go.ChangeAt Go.Joins
set_option maxRecDepth 100000 in
theorem lifted (os : Os) (started : os.Started) (H : Type) (enc : TypeId × Value → H) :
    ReturnsInHanded {} Try.checked os 4 .any (Rows.orderNearSpec.pre6 enc Try.prog Try.f4 Rows.orderNearRow.domain false) (Rows.orderNearSpec.post enc Try.prog Try.f4 false true false false) := by
  refine Lw.lifted (C := Try.checked) (B := 4) (by kernel_rfl) os started (by kernel_rfl) Try.func4
    (ChangeSpec.witness6 (enc := enc) (C := Try.checked) false ⟨#[], #[.slice none 0 0, .int .i64 0, .int .i64 0], []⟩ 8 (by kernel_rfl) (by kernel_rfl) (by kernel_rfl) (by kernel_rfl)) rfl Try.underlying4 (by kernel_rfl) (by kernel_rfl) (by kernel_rfl) ?_ ?_
  · intro ds h
    rw [Try.params4] at h
    match ds, h with
    | [_, _, _], _ => rfl
  · intro W base args ds p hval hA
    rw [Try.params4] at hA hval
    obtain ⟨v0, vs0, d0, ds0, p0, q0, hargs, rfl, rfl, h0, r0⟩ := trodAll_cons hA
    obtain ⟨v1, vs1, d1, ds1, p1, q1, rfl, rfl, rfl, h1, r1⟩ := trodAll_cons r0
    obtain ⟨v2, vs2, d2, ds2, p2, q2, rfl, rfl, rfl, h2, r2⟩ := trodAll_cons r1
    obtain ⟨rfl, rfl, rfl⟩ := trodAll_nil r2
    obtain rfl : args = #[v0, v1, v2] := by cases args; simp_all
    obtain ⟨A0, n0, c0, zs0, rfl, hA0, hn0, hc0, hr0, hl0, hz0⟩ := open_list_int64 (hval 0 22 v0 rfl rfl) h0
    obtain ⟨a1, rfl, rfl, rfl, w1⟩ := open_int Try.underlying2 (hval 1 2 v1 rfl rfl) h1
    have b1 := Lw.wf_i64 w1
    obtain ⟨a2, rfl, rfl, rfl, w2⟩ := open_int Try.underlying2 (hval 2 2 v2 rfl rfl) h2
    have b2 := Lw.wf_i64 w2
    exact near_any A0 n0 c0 zs0 a1 a2 W hA0 hn0 hc0 hr0 hl0 hz0 b1.1 b1.2 b2.1 b2.2
theorem over : Rows.orderNearRow.holds Try.pinned (OpenSpec.ofChange Rows.orderNearSpec) :=
  OpenClaim.holds_of_wide 4 Try.f4 rfl rfl rfl rfl rfl rfl rfl ⟨rfl, rfl, rfl, rfl, rfl⟩ rfl rfl rfl rfl rfl (by kernel_rfl) Try.func4 (by kernel_rfl)
    (of_decide_eq_true (by kernel_rfl)) (by unfold Func.isWrapper; first | (rw [if_pos (by decide +kernel)]; kernel_rfl) | (rw [if_neg (by decide +kernel)]; exact ⟨rfl, rfl⟩))
    (fun os started H enc _ => lifted os started H enc)
theorem proved : Rows.OrderNearSaid :=
  over
#print axioms proved
end orderNear
set_option maxRecDepth 100000 in
set_option maxHeartbeats 4000000 in
theorem counts_no (A : Option Addr) (n cap : Nat) (zs : List Int) (k : Int) (w : World) (hA : A = none → n = 0 ∧ cap = 0) (hn : n ≤ cap) (hcap : cap ≤ maxLen) (hr : Rd .i64 w A zs) (hl : zs.length = n) (hz : In64 zs) (k0 : -9223372036854775808 ≤ k) (k1 : k ≤ 9223372036854775807) (hk : k < 0 ∨ (n : Int) ≤ k ∨ 200 ≤ k) :
    Calls Try.prog 5 #[.slice A n cap, .int .i64 k] w fun e w' => e = .returned (.bool true) ∧ Below w.heap.size w w' := by
  unfold maxLen at hcap
  obtain ⟨i0, hi, hz0, hz1, hz2⟩ := info_parts i64_info
  obtain ⟨m, hmin⟩ : ∃ m : Nat, (if (200 : Int) < n then 200 else (n : Int)) = m := ⟨min n 200, by split <;> omega⟩
  have hm1 : m ≤ 200 := by split at hmin <;> omega
  have hm2 : m ≤ n := by split at hmin <;> omega
  have hm3 : m ≤ zs.length := by omega
  have hA2 : A = none → m = 0 ∧ cap = 0 := fun h => ⟨by have := (hA h).1; omega, (hA h).2⟩
  have HR := Lib.hid hr
  have HZ := Lib.hid hz
  clear hr hl hz hA
  have hkm : k < 0 ∨ (m : Int) ≤ k := by split at hmin <;> omega
  go_enter Try.func5, Try.ntmps5
  go_wp2_with (first
    | (go_at_call 9; (with_reducible refine (shown_any _).mono ?_); rintro e wS ⟨rfl, hbS⟩)
    | (at_builtin; go_must (refine app_any .i64 rfl _ _ 22 rfl w.heap.size 2 i0 8 i64s_u hi hz0 hz1 hz2 (.slice (some ⟨wS.heap.size, 0, none⟩) 0 0) 0 [] rfl (own_empty wS _ _ _ hbS.size) (fun h => by cases h) A m cap (zs.take m) rfl hA2 (by simp; omega) ((HR.out.take m).up (Lw.below_alloc hbS _)) (by unfold maxLen; omega) (by omega) (by have := hbS.size; simp; omega) ?_); intro A2 cap2 w2 hown2 hgrow2 hrd2 hcap2 hcap3; have hb2 := app_below hgrow2 (Nat.le_refl _); rw [List.nil_append] at hrd2; clear hown2 hgrow2; (try simp only [Nat.zero_add] at hcap2); (try simp only [Nat.zero_add])))
  obtain ⟨L, hL⟩ : ∃ L : List Int, L = zs.take m := ⟨_, rfl⟩
  rw [← hL] at hrd2
  have hlen : L.length = m := by rw [hL]; simp; omega
  have HLZ : Hid (In64 L) := Lib.hid (by rw [hL]; exact in64_take HZ.out m)
  have HLEN := Lib.hid hlen
  have HB2 := Lib.hid (below_call (hbS) hb2 (Nat.le_refl _))
  have HRD : Hid (∀ w', Below w2.heap.size w2 w' → Rd .i64 w' (some A2) L) := Lib.hid (fun w' h => hrd2.up h)
  unfold maxLen at hcap3
  clear hL hlen hrd2 hbS hb2 hmin HR HZ
  obtain ⟨e1, e2⟩ := kv_no (l := L) (k := k) (by have := HLEN.out; omega)
  go_wp2_with (first
    | (go_at_call 10; (with_reducible refine (kth_any (some A2) m cap2 L (k) _ (by simp) hcap2 (by unfold maxLen; omega) (HRD.out _ (by repeat' (first | (with_reducible exact Below.refl _ _) | (with_reducible assumption) | (with_reducible refine below_over ?_ _ _) | (with_reducible refine Lw.below_alloc ?_ _) | (with_reducible refine Below.drew ?_) | (with_reducible refine below_drewN ?_ _) | (with_reducible refine Below.setCell ?_ ?_ _) | go_size))) HLEN.out (by omega) HLZ.out (by omega) (by omega)).mono ?_); rintro e w' ⟨rfl, hb⟩; obtain ⟨bs, d, rfl⟩ := below_grow hb; clear hb))
  all_goals go_ret
  all_goals refine ⟨ret_bool' (by first | (simp [*]; done) | (simp [*]; omega) | (simp; omega)), ?_⟩
  all_goals (repeat' (first | (with_reducible exact Below.refl _ _) | (with_reducible assumption) | (with_reducible exact HB2.out) | (with_reducible refine below_over ?_ _ _) | (with_reducible refine Lw.below_alloc ?_ _) | (with_reducible refine Below.drew ?_) | (with_reducible refine below_drewN ?_ _) | (with_reducible refine Below.setCell ?_ ?_ _) | go_size))
set_option maxRecDepth 100000 in
set_option maxHeartbeats 4000000 in
theorem counts_yes (A : Option Addr) (n cap : Nat) (zs : List Int) (k : Int) (w : World) (hA : A = none → n = 0 ∧ cap = 0) (hn : n ≤ cap) (hcap : cap ≤ maxLen) (hr : Rd .i64 w A zs) (hl : zs.length = n) (hz : In64 zs) (k0 : -9223372036854775808 ≤ k) (k1 : k ≤ 9223372036854775807) (hk0 : 0 ≤ k) (hk1 : k < n) (hk2 : k < 200) :
    Calls Try.prog 5 #[.slice A n cap, .int .i64 k] w fun e w' => e = .returned (.bool true) ∧ Below w.heap.size w w' := by
  unfold maxLen at hcap
  obtain ⟨i0, hi, hz0, hz1, hz2⟩ := info_parts i64_info
  obtain ⟨m, hmin⟩ : ∃ m : Nat, (if (200 : Int) < n then 200 else (n : Int)) = m := ⟨min n 200, by split <;> omega⟩
  have hm1 : m ≤ 200 := by split at hmin <;> omega
  have hm2 : m ≤ n := by split at hmin <;> omega
  have hm3 : m ≤ zs.length := by omega
  have hA2 : A = none → m = 0 ∧ cap = 0 := fun h => ⟨by have := (hA h).1; omega, (hA h).2⟩
  have HR := Lib.hid hr
  have HZ := Lib.hid hz
  clear hr hl hz hA
  have hkm : k < m := by split at hmin <;> omega
  go_enter Try.func5, Try.ntmps5
  go_wp2_with (first
    | (go_at_call 9; (with_reducible refine (shown_any _).mono ?_); rintro e wS ⟨rfl, hbS⟩)
    | (at_builtin; go_must (refine app_any .i64 rfl _ _ 22 rfl w.heap.size 2 i0 8 i64s_u hi hz0 hz1 hz2 (.slice (some ⟨wS.heap.size, 0, none⟩) 0 0) 0 [] rfl (own_empty wS _ _ _ hbS.size) (fun h => by cases h) A m cap (zs.take m) rfl hA2 (by simp; omega) ((HR.out.take m).up (Lw.below_alloc hbS _)) (by unfold maxLen; omega) (by omega) (by have := hbS.size; simp; omega) ?_); intro A2 cap2 w2 hown2 hgrow2 hrd2 hcap2 hcap3; have hb2 := app_below hgrow2 (Nat.le_refl _); rw [List.nil_append] at hrd2; clear hown2 hgrow2; (try simp only [Nat.zero_add] at hcap2); (try simp only [Nat.zero_add])))
  obtain ⟨L, hL⟩ : ∃ L : List Int, L = zs.take m := ⟨_, rfl⟩
  rw [← hL] at hrd2
  have hlen : L.length = m := by rw [hL]; simp; omega
  have HLZ : Hid (In64 L) := Lib.hid (by rw [hL]; exact in64_take HZ.out m)
  have HLEN := Lib.hid hlen
  have HB2 := Lib.hid (below_call (hbS) hb2 (Nat.le_refl _))
  have HRD : Hid (∀ w', Below w2.heap.size w2 w' → Rd .i64 w' (some A2) L) := Lib.hid (fun w' h => hrd2.up h)
  unfold maxLen at hcap3
  clear hL hlen hrd2 hbS hb2 hmin HR HZ
  obtain ⟨e1, e2⟩ := kv_yes (l := L) (k := k) (by omega) (by have := HLEN.out; omega)
  have hrk := ranks_kth L k.toNat (by have := HLEN.out; omega)
  obtain ⟨X, hX⟩ : ∃ X, kth L k.toNat = X := ⟨_, rfl⟩
  rw [hX] at e1 hrk
  have HRK := Lib.hid hrk
  clear hX hrk
  go_wp2_with (first
    | (go_at_call 10; (with_reducible refine (kth_any (some A2) m cap2 L (k) _ (by simp) hcap2 (by unfold maxLen; omega) (HRD.out _ (by repeat' (first | (with_reducible exact Below.refl _ _) | (with_reducible assumption) | (with_reducible refine below_over ?_ _ _) | (with_reducible refine Lw.below_alloc ?_ _) | (with_reducible refine Below.drew ?_) | (with_reducible refine below_drewN ?_ _) | (with_reducible refine Below.setCell ?_ ?_ _) | go_size))) HLEN.out (by omega) HLZ.out (by omega) (by omega)).mono ?_); rintro e w' ⟨rfl, hb⟩; obtain ⟨bs, d, rfl⟩ := below_grow hb; clear hb))
  have HC := Lib.hid (HRD.out _ (below_over (Below.refl w2.heap.size w2) bs d))
  go_loop [8, 9, 10] (fun a c i => ∃ j : Nat, j ≤ m ∧ i = .int .i64 j ∧ a = .int .i64 (less (L.take j) X : Nat) ∧ c = .int .i64 (same (L.take j) X : Nat)) (fun _ _ i => m - (intOf i).toNat)
  case atStart => exact ⟨0, Nat.zero_le _, rfl, rfl, rfl⟩
  case round =>
    obtain ⟨j, hj, rfl, rfl, rfl⟩ := hrel
    have hnl := less_len L X j
    have hns := same_len L X j
    by_cases hlt : j < m
    · have hjl : j < L.length := by have := HLEN.out; omega
      obtain ⟨v, hv⟩ : ∃ v, L[j]? = some v := ⟨_, List.getElem?_eq_getElem hjl⟩
      have hc := HC.out.at hv
      have hvb := HLZ.out.at hv
      have HN := Lib.hid (less_next L X j v hv)
      have HM := Lib.hid (same_next L X j v hv)
      clear hv
      by_cases h1 : v < X
      · have h2 : (v == X) = false := by simp; omega
        go_wp2
        go_round
        case rel => exact ⟨j + 1, by omega, by go_num, by rw [HN.out, if_pos h1]; go_num, by rw [HM.out, if_neg (by omega)]; rfl⟩
        case measure => simp [intOf]; omega
      · by_cases h3 : v = X
        · have h2 : (v == X) = true := by simp; omega
          have H3 := Lib.hid h3
          clear h3
          go_wp2
          go_round
          case rel => exact ⟨j + 1, by omega, by go_num, by rw [HN.out, if_neg h1]; rfl, by rw [HM.out, if_pos H3.out]; go_num⟩
          case measure => simp [intOf]; omega
        · have h2 : (v == X) = false := by simp; omega
          go_wp2
          go_round
          case rel => exact ⟨j + 1, by omega, by go_num, by rw [HN.out, if_neg h1]; rfl, by rw [HM.out, if_neg h3]; rfl⟩
          case measure => simp [intOf]; omega
    · have e : j = m := by omega
      subst e
      rw [List.take_of_length_le (by have := HLEN.out; omega)] at hnl hns ⊢
      obtain ⟨p1, p2, p3⟩ := ranks_same (HRK.out)
      have p4 : (less L X : Int) ≤ k := by omega
      have p5 : k < (less L X : Int) + (same L X : Int) := by omega
      have p6 : (0 : Int) < (same L X : Int) := by omega
      clear p1 p2 p3
      go_wp2
      all_goals go_ret
      all_goals refine ⟨ret_bool' (by first | rfl | (simp [*]; done) | (simp [*]; omega) | (simp; omega)), ?_⟩
      all_goals (repeat' (first | (with_reducible exact Below.refl _ _) | (with_reducible assumption) | (with_reducible exact HB2.out) | (with_reducible refine below_over ?_ _ _) | (with_reducible refine Lw.below_alloc ?_ _) | (with_reducible refine Below.drew ?_) | (with_reducible refine below_drewN ?_ _) | (with_reducible refine Below.setCell ?_ ?_ _) | go_size))

theorem counts_any (A : Option Addr) (n cap : Nat) (zs : List Int) (k : Int) (w : World) (hA : A = none → n = 0 ∧ cap = 0) (hn : n ≤ cap) (hcap : cap ≤ maxLen) (hr : Rd .i64 w A zs) (hl : zs.length = n) (hz : In64 zs) (k0 : -9223372036854775808 ≤ k) (k1 : k ≤ 9223372036854775807) :
    Calls Try.prog 5 #[.slice A n cap, .int .i64 k] w fun e w' => e = .returned (.bool true) ∧ Below w.heap.size w w' := by
  by_cases h1 : 0 ≤ k ∧ k < n ∧ k < 200
  · exact counts_yes A n cap zs k w hA hn hcap hr hl hz k0 k1 h1.1 h1.2.1 h1.2.2
  · exact counts_no A n cap zs k w hA hn hcap hr hl hz k0 k1 (by omega)
namespace orderCounts
open Go.ChangeShapes Go.WideShapes Go.ChangeAt Go.Joins
set_option maxRecDepth 100000 in
theorem lifted (os : Os) (started : os.Started) (H : Type) (enc : TypeId × Value → H) :
    ReturnsInHanded {} Try.checked os 5 .any (Rows.orderCountsSpec.pre6 enc Try.prog Try.f5 Rows.orderCountsRow.domain false) (Rows.orderCountsSpec.post enc Try.prog Try.f5 false true false false) := by
  refine Lw.lifted (C := Try.checked) (B := 4) (by kernel_rfl) os started (by kernel_rfl) Try.func5
    (ChangeSpec.witness6 (enc := enc) (C := Try.checked) false ⟨#[], #[.slice none 0 0, .int .i64 0], []⟩ 8 (by kernel_rfl) (by kernel_rfl) (by kernel_rfl) (by kernel_rfl)) rfl Try.underlying4 (by kernel_rfl) (by kernel_rfl) (by kernel_rfl) ?_ ?_
  · intro ds h
    rw [Try.params5] at h
    match ds, h with
    | [_, _], _ => rfl
  · intro W base args ds p hval hA
    rw [Try.params5] at hA hval
    obtain ⟨v0, vs0, d0, ds0, p0, q0, hargs, rfl, rfl, h0, r0⟩ := trodAll_cons hA
    obtain ⟨v1, vs1, d1, ds1, p1, q1, rfl, rfl, rfl, h1, r1⟩ := trodAll_cons r0
    obtain ⟨rfl, rfl, rfl⟩ := trodAll_nil r1
    obtain rfl : args = #[v0, v1] := by cases args; simp_all
    obtain ⟨A0, n0, c0, zs0, rfl, hA0, hn0, hc0, hr0, hl0, hz0⟩ := open_list_int64 (hval 0 22 v0 rfl rfl) h0
    obtain ⟨a1, rfl, rfl, rfl, w1⟩ := open_int Try.underlying3 (hval 1 3 v1 rfl rfl) h1
    have b1 := Lw.wf_i64 w1
    exact counts_any A0 n0 c0 zs0 a1 W hA0 hn0 hc0 hr0 hl0 hz0 b1.1 b1.2
theorem over : Rows.orderCountsRow.holds Try.pinned (OpenSpec.ofChange Rows.orderCountsSpec) :=
  OpenClaim.holds_of_wide 5 Try.f5 rfl rfl rfl rfl rfl rfl rfl ⟨rfl, rfl, rfl, rfl, rfl⟩ rfl rfl rfl rfl rfl (by kernel_rfl) Try.func5 (by kernel_rfl)
    (of_decide_eq_true (by kernel_rfl)) (by unfold Func.isWrapper; first | (rw [if_pos (by decide +kernel)]; kernel_rfl) | (rw [if_neg (by decide +kernel)]; exact ⟨rfl, rfl⟩))
    (fun os started H enc _ => lifted os started H enc)
theorem proved : Rows.OrderCountsSaid :=
  over
#print axioms proved
end orderCounts
set_option maxRecDepth 100000 in
set_option maxHeartbeats 4000000 in
theorem rises_any (A : Option Addr) (n cap : Nat) (zs : List Int) (w : World) (hA : A = none → n = 0 ∧ cap = 0) (hn : n ≤ cap) (hcap : cap ≤ maxLen) (hr : Rd .i64 w A zs) (hl : zs.length = n) (hz : In64 zs) :
    Calls Try.prog 8 #[.slice A n cap] w fun e w' => e = .returned (.bool true) ∧ Below w.heap.size w w' := by
  unfold maxLen at hcap
  obtain ⟨i0, hi, hz0, hz1, hz2⟩ := info_parts i64_info
  obtain ⟨m, hmin⟩ : ∃ m : Nat, (if (200 : Int) < n then 200 else (n : Int)) = m := ⟨min n 200, by split <;> omega⟩
  have hm1 : m ≤ 200 := by split at hmin <;> omega
  have hm2 : m ≤ n := by split at hmin <;> omega
  have hm3 : m ≤ zs.length := by omega
  have hA2 : A = none → m = 0 ∧ cap = 0 := fun h => ⟨by have := (hA h).1; omega, (hA h).2⟩
  have HR := Lib.hid hr
  have HZ := Lib.hid hz
  clear hr hl hz hA
  go_enter Try.func8, Try.ntmps8
  go_wp2_with (first
    | (go_at_call 9; (with_reducible refine (shown_any _).mono ?_); rintro e wS ⟨rfl, hbS⟩)
    | (at_builtin; go_must (refine app_any .i64 rfl _ _ 22 rfl w.heap.size 2 i0 8 i64s_u hi hz0 hz1 hz2 (.slice (some ⟨wS.heap.size, 0, none⟩) 0 0) 0 [] rfl (own_empty wS _ _ _ hbS.size) (fun h => by cases h) A m cap (zs.take m) rfl hA2 (by simp; omega) ((HR.out.take m).up (Lw.below_alloc hbS _)) (by unfold maxLen; omega) (by omega) (by have := hbS.size; simp; omega) ?_); intro A2 cap2 w2 hown2 hgrow2 hrd2 hcap2 hcap3; have hb2 := app_below hgrow2 (Nat.le_refl _); rw [List.nil_append] at hrd2; clear hown2 hgrow2; (try simp only [Nat.zero_add] at hcap2); (try simp only [Nat.zero_add])))
  obtain ⟨L, hL⟩ : ∃ L : List Int, L = zs.take m := ⟨_, rfl⟩
  rw [← hL] at hrd2
  have hlen : L.length = m := by rw [hL]; simp; omega
  have HLZ : Hid (In64 L) := Lib.hid (by rw [hL]; exact in64_take HZ.out m)
  have HLEN := Lib.hid hlen
  have HB2 := Lib.hid (below_call (hbS) hb2 (Nat.le_refl _))
  have HRD : Hid (∀ w', Below w2.heap.size w2 w' → Rd .i64 w' (some A2) L) := Lib.hid (fun w' h => hrd2.up h)
  unfold maxLen at hcap3
  clear hL hlen hrd2 hbS hb2 hmin HR HZ
  go_wp2_with (first
    | (go_at_call 11; (with_reducible refine (min_any (some A2) m cap2 L _ (by simp) hcap2 (by unfold maxLen; omega) (HRD.out _ (by repeat' (first | (with_reducible exact Below.refl _ _) | (with_reducible assumption) | (with_reducible refine below_over ?_ _ _) | (with_reducible refine Lw.below_alloc ?_ _) | (with_reducible refine Below.drew ?_) | (with_reducible refine below_drewN ?_ _) | (with_reducible refine Below.setCell ?_ ?_ _) | go_size))) HLEN.out (by omega) HLZ.out).mono ?_); rintro e w' ⟨rfl, hb⟩; obtain ⟨bs, d, rfl⟩ := below_grow hb; clear hb))
  have HB3 := Lib.hid (grow_below w2 bs d)
  obtain ⟨w3, hw3⟩ : ∃ w3, w3 = grow w2 bs d := ⟨_, rfl⟩
  rw [← hw3]
  rw [← hw3] at HB3
  clear hw3
  go_loopw [4, 6] (fun v i wr => ∃ k : Nat, k ≤ m ∧ i = .int .i64 k ∧ v = .int .i64 (prev L k) ∧ Below w2.heap.size w2 wr) (fun _ i _ => m - (intOf i).toNat)
  case atStart => exact ⟨0, Nat.zero_le _, rfl, rfl, HB3.out⟩
  case round =>
    obtain ⟨k, hk, rfl, rfl, hbel⟩ := hrel
    have HB4 := Lib.hid hbel
    clear hbel
    by_cases hlt : k < m
    · have e2 : kb L k = true := (kv_yes (l := L) (k := (k : Int)) (by omega) (by have := HLEN.out; omega)).2
      have HP := Lib.hid (prev_le L k (by have := HLEN.out; omega))
      have HS := Lib.hid (prev_next L k)
      obtain ⟨X, hX⟩ : ∃ X, kv L k = X := ⟨_, rfl⟩
      obtain ⟨Y, hY⟩ : ∃ Y, prev L k = Y := ⟨_, rfl⟩
      rw [hY]
      rw [hX, hY] at HP
      rw [hX] at HS
      have hle : ¬ X < Y := by have := HP.out.1; omega
      by_cases hz : k = 0
      · have hxy : X = Y := HP.out.2 hz
        subst hz
        subst hxy
        have HX0 : Hid (kv L 0 = X) := Lib.hid hX
        have HE0 : Hid (kb L 0 = true) := Lib.hid e2
        clear hX e2
        go_wp2_with (go_at_call 10; (with_reducible refine (kth_any (some A2) m cap2 L 0 _ (by simp) hcap2 (by unfold maxLen; omega) (HRD.out _ HB4.out) HLEN.out (by omega) HLZ.out (by omega) (by omega)).mono ?_); rintro e w' ⟨he, hb⟩; rw [HX0.out, HE0.out] at he; subst he; obtain ⟨bs, d, rfl⟩ := below_grow hb; clear hb)
        go_roundw
        case rel => exact ⟨0 + 1, by omega, by go_num, by rw [HS.out], below_call HB4.out (grow_below _ _ _) (Nat.le_refl _)⟩
        case measure => simp [intOf]; omega
      · have hz2 : ((k : Int) == 0) = false := by simp; omega
        go_wp2_with (go_at_call 10; (with_reducible refine (kth_any (some A2) m cap2 L (k : Int) _ (by simp) hcap2 (by unfold maxLen; omega) (HRD.out _ HB4.out) HLEN.out (by omega) HLZ.out (by omega) (by omega)).mono ?_); rintro e w' ⟨he, hb⟩; rw [hX] at he; subst he; obtain ⟨bs, d, rfl⟩ := below_grow hb; clear hb)
        go_roundw
        case rel => exact ⟨k + 1, by omega, by go_num, by rw [HS.out], below_call HB4.out (grow_below _ _ _) (Nat.le_refl _)⟩
        case measure => simp [intOf]; omega
    · have e : k = m := by omega
      subst e
      have e2 : kb L (k : Int) = false := (kv_no (l := L) (k := (k : Int)) (by have := HLEN.out; omega)).2
      go_wp2_with (go_at_call 10; (with_reducible refine (kth_any (some A2) k cap2 L (k : Int) _ (by simp) hcap2 (by unfold maxLen; omega) (HRD.out _ HB4.out) HLEN.out (by omega) HLZ.out (by omega) (by omega)).mono ?_); rintro e w' ⟨he, hb⟩; subst he; obtain ⟨bs, d, rfl⟩ := below_grow hb; clear hb)
      go_ret
      refine ⟨ret_bool' (by first | rfl | (simp [*]; done)), ?_⟩
      exact below_over (below_call HB2.out HB4.out (Nat.le_refl _)) _ _
namespace orderRises
open Go.ChangeShapes Go.WideShapes Go.ChangeAt Go.Joins
set_option maxRecDepth 100000 in
theorem lifted (os : Os) (started : os.Started) (H : Type) (enc : TypeId × Value → H) :
    ReturnsInHanded {} Try.checked os 8 .any (Rows.orderRisesSpec.pre6 enc Try.prog Try.f8 Rows.orderRisesRow.domain false) (Rows.orderRisesSpec.post enc Try.prog Try.f8 false true false false) := by
  refine Lw.lifted (C := Try.checked) (B := 4) (by kernel_rfl) os started (by kernel_rfl) Try.func8
    (ChangeSpec.witness6 (enc := enc) (C := Try.checked) false ⟨#[], #[.slice none 0 0], []⟩ 8 (by kernel_rfl) (by kernel_rfl) (by kernel_rfl) (by kernel_rfl)) rfl Try.underlying4 (by kernel_rfl) (by kernel_rfl) (by kernel_rfl) ?_ ?_
  · intro ds h
    rw [Try.params8] at h
    match ds, h with
    | [_], _ => rfl
  · intro W base args ds p hval hA
    rw [Try.params8] at hA hval
    obtain ⟨v0, vs0, d0, ds0, p0, q0, hargs, rfl, rfl, h0, r0⟩ := trodAll_cons hA
    obtain ⟨rfl, rfl, rfl⟩ := trodAll_nil r0
    obtain rfl : args = #[v0] := by cases args; simp_all
    obtain ⟨A0, n0, c0, zs0, rfl, hA0, hn0, hc0, hr0, hl0, hz0⟩ := open_list_int64 (hval 0 22 v0 rfl rfl) h0
    exact rises_any A0 n0 c0 zs0 W hA0 hn0 hc0 hr0 hl0 hz0
theorem over : Rows.orderRisesRow.holds Try.pinned (OpenSpec.ofChange Rows.orderRisesSpec) :=
  OpenClaim.holds_of_wide 8 Try.f8 rfl rfl rfl rfl rfl rfl rfl ⟨rfl, rfl, rfl, rfl, rfl⟩ rfl rfl rfl rfl rfl (by kernel_rfl) Try.func8 (by kernel_rfl)
    (of_decide_eq_true (by kernel_rfl)) (by unfold Func.isWrapper; first | (rw [if_pos (by decide +kernel)]; kernel_rfl) | (rw [if_neg (by decide +kernel)]; exact ⟨rfl, rfl⟩))
    (fun os started H enc _ => lifted os started H enc)
theorem proved : Rows.OrderRisesSaid :=
  over
#print axioms proved
end orderRises
set_option maxRecDepth 100000 in
set_option maxHeartbeats 4000000 in
theorem turned_any (A : Option Addr) (n cap : Nat) (zs : List Int) (at' k : Int) (w : World) (hA : A = none → n = 0 ∧ cap = 0) (hn : n ≤ cap) (hcap : cap ≤ maxLen) (hr : Rd .i64 w A zs) (hl : zs.length = n) (hz : In64 zs) (at0 : -9223372036854775808 ≤ at') (at1 : at' ≤ 9223372036854775807) (k0 : -9223372036854775808 ≤ k) (k1 : k ≤ 9223372036854775807) :
    Calls Try.prog 6 #[.slice A n cap, .int .i64 at', .int .i64 k] w fun e w' => e = .returned (.bool true) ∧ Below w.heap.size w w' := by
  unfold maxLen at hcap
  obtain ⟨i0, hi, hz0, hz1, hz2⟩ := info_parts i64_info
  obtain ⟨m, hmin⟩ : ∃ m : Nat, (if (200 : Int) < n then 200 else (n : Int)) = m := ⟨min n 200, by split <;> omega⟩
  have hm1 : m ≤ 200 := by split at hmin <;> omega
  have hm2 : m ≤ n := by split at hmin <;> omega
  have hm3 : m ≤ zs.length := by omega
  have hA2 : A = none → m = 0 ∧ cap = 0 := fun h => ⟨by have := (hA h).1; omega, (hA h).2⟩
  have HR := Lib.hid hr
  have HZ := Lib.hid hz
  clear hr hl hz hA
  have ha := and16i at'
  have ha0 : 0 ≤ at' % 65536 := by omega
  obtain ⟨K, hK⟩ : ∃ K : Nat, at' % 65536 % ((m : Int) + 1) = K := ⟨(at' % 65536 % ((m : Int) + 1)).toNat, by rw [Int.toNat_of_nonneg (Int.emod_nonneg _ (by omega))]⟩
  have hK2 : K ≤ m := by
    have := Int.emod_lt_of_pos (at' % 65536) (b := (m : Int) + 1) (by omega)
    omega
  go_enter Try.func6, Try.ntmps6
  go_wp2_with (first
    | (go_at_call 9; (with_reducible refine (shown_any _).mono ?_); rintro e wS ⟨rfl, hbS⟩)
    | (at_builtin; (refine app_any .i64 rfl _ _ 22 rfl w.heap.size 2 i0 8 i64s_u hi hz0 hz1 hz2 (.slice (some ⟨wS.heap.size, 0, none⟩) 0 0) 0 [] rfl (own_empty wS _ _ _ hbS.size) (fun h => by cases h) A m cap (zs.take m) rfl hA2 (by simp; omega) ((HR.out.take m).up (Lw.below_alloc hbS _)) (by unfold maxLen; omega) (by omega) (by have := hbS.size; simp; omega) ?_); intro A2 cap2 w2 hown2 hgrow2 hrd2 hcap2 hcap3; have hb2 := app_below hgrow2 (Nat.le_refl _); rw [List.nil_append] at hrd2; clear hown2 hgrow2; (try simp only [Nat.zero_add] at hcap2); (try simp only [Nat.zero_add]))
    | (at_builtin; (refine app_any .i64 rfl _ _ 22 rfl w2.heap.size 2 i0 8 i64s_u hi hz0 hz1 hz2 (.slice (some ⟨w2.heap.size, 0, none⟩) 0 0) 0 [] rfl (own_empty w2 _ _ _ (Nat.le_refl _)) (fun h => by cases h) (some A2) m cap2 (zs.take m) rfl (by simp) (by simp; omega) (hrd2.up (Lw.below_alloc (Below.refl _ _) _)) (by unfold maxLen; omega) (by omega) (by simp) ?_); intro A3 cap3 w3 hown3 hgrow3 hrd3 hcap4 hcap5; have hb3 := app_below hgrow3 (Nat.le_refl _); rw [List.nil_append] at hrd3; clear hown3 hgrow3; (try simp only [Nat.zero_add] at hcap4); (try simp only [Nat.zero_add])))
  have HK := Lib.hid hK
  clear hK ha ha0
  obtain ⟨L, hL⟩ : ∃ L : List Int, L = zs.take m := ⟨_, rfl⟩
  rw [← hL] at hrd2 hrd3
  have hlen : L.length = m := by rw [hL]; simp; omega
  have HLZ : Hid (In64 L) := Lib.hid (by rw [hL]; exact in64_take HZ.out m)
  have HLEN := Lib.hid hlen
  have HB2 := Lib.hid (below_call (below_call hbS hb2 (Nat.le_refl _)) hb3 (Nat.le_refl _))
  have HB3 := Lib.hid hb3
  have HRD : Hid (∀ w', Below w2.heap.size w2 w' → Rd .i64 w' (some A2) L) := Lib.hid (fun w' h => hrd2.up h)
  have HR3 : Hid (∀ w', Below w3.heap.size w3 w' → Rd .i64 w' (some A3) L) := Lib.hid (fun w' h => hrd3.up h)
  unfold maxLen at hcap3 hcap5
  clear hL hlen hrd2 hrd3 hbS hb2 hb3 hmin HR HZ
  have hs1 : ¬ ((cap2 : Nat) : Int) < (K : Int) := by omega
  have hs2 : ¬ ((m : Nat) : Int) < (K : Int) := by omega
  have hs3 : (0 : Int) ≤ (K : Int) ∧ (K : Int) ≤ (cap2 : Int) := by omega
  have hs4 : ¬ cap2 < K := by omega
  obtain ⟨M, hM⟩ : ∃ M : List Int, L.drop K ++ L.take K = M := ⟨_, rfl⟩
  have hMl : M.length = m := by rw [← hM]; have := HLEN.out; simp; omega
  have HMZ : Hid (In64 M) := Lib.hid (by rw [← hM]; exact in64_app (in64_drop HLZ.out K) (in64_take HLZ.out K))
  have hMp : M.Perm L := by rw [← hM]; refine List.perm_append_comm.trans ?_; rw [List.take_append_drop]
  have HMP := Lib.hid hMp
  have HML := Lib.hid hMl
  have HM := Lib.hid hM
  clear hM hMl hMp
  go_cut [9] (fun s9 wx => ∃ (A5 : Addr) (cap5 : Nat), s9 = .slice (some A5) m cap5 ∧ Rd .i64 wx (some A5) M ∧ m ≤ cap5 ∧ cap5 ≤ 9223372036854775807 ∧ Below w3.heap.size w3 wx)
  case first =>
    clear hs4
    by_cases hck : cap2 = K
    · have e1 : K = m := by omega
      subst e1
      subst hck
      go_region_held3 (fun w' => Below w3.heap.size w3 w') (first | (with_reducible assumption) | (repeat' (first | (with_reducible exact Below.refl _ _) | (with_reducible assumption) | (with_reducible refine below_over ?_ _ _) | (with_reducible refine Lw.below_alloc ?_ _) | (with_reducible refine Below.drew ?_) | (with_reducible refine below_drewN ?_ _) | (with_reducible refine Below.setCell ?_ ?_ _) | go_size))) (first
        | (refine app_step .i64 rfl _ _ 22 rfl w3.heap.size 2 i0 8 i64s_u hi hz0 hz1 hz2 (.slice (some ⟨w3.heap.size, 0, none⟩) 0 0) 0 [] rfl (own_empty w3.drew _ _ _ (Nat.le_refl _)) (fun h => by cases h) (some A2) 0 0 [] rfl (by simp) rfl (rd_nil _ _ _) (by unfold maxLen; omega) (by omega) (by simp) ?_; intro A4 cap4 w4 hown4 hgrow4 hrd4 hcap6 hcap7; have hb4 : Below w3.heap.size w3 w4 := app_below2 (by assumption) hgrow4 (Nat.le_refl _); (try simp only [Nat.zero_add, List.nil_append] at hown4 hrd4 hcap6); (try simp only [Nat.zero_add]))
        | (have hx2 := Rd.take (HRD.out w4 (below_call HB3.out hb4 (Nat.le_refl _))) cap2; refine app_step .i64 rfl _ _ 22 rfl w3.heap.size 2 i0 8 i64s_u hi hz0 hz1 hz2 (.slice (some A4) 0 cap4) 0 [] rfl hown4 (fun h => by cases h) (some A2) cap2 cap2 (L.take cap2) rfl (by simp) (by have := HLEN.out; simp; omega) hx2 (by unfold maxLen; omega) (by omega) hb4.size ?_; intro A5 cap5 w5 hown5 hgrow5 hrd5 hcap8 hcap9; have hb5 : Below w3.heap.size w3 w5 := hb4.grown hgrow5 hb4.size (fun k hk => own_ge hown4 k hk); (try simp only [Nat.zero_add, List.nil_append] at hown5 hrd5 hcap8); (try simp only [Nat.zero_add])))
      all_goals go_wp2
      all_goals go_meet
      all_goals refine ⟨_, _, rfl, ?_, hcap8, by unfold maxLen at hcap9; omega, hb5⟩
      all_goals rw [← HM.out, List.drop_of_length_le (by have := HLEN.out; omega), List.nil_append]
      all_goals exact hrd5
    · go_region_held3 (fun w' => Below w3.heap.size w3 w') (first | (with_reducible assumption) | (repeat' (first | (with_reducible exact Below.refl _ _) | (with_reducible assumption) | (with_reducible refine below_over ?_ _ _) | (with_reducible refine Lw.below_alloc ?_ _) | (with_reducible refine Below.drew ?_) | (with_reducible refine below_drewN ?_ _) | (with_reducible refine Below.setCell ?_ ?_ _) | go_size))) (first
        | (have hx1 := Rd.up (Rd.drop (HRD.out w3 HB3.out) K) (Lw.below_alloc (Below.drew (Below.refl w3.heap.size w3)) (.cells #[] 2)); refine app_step .i64 rfl _ _ 22 rfl w3.heap.size 2 i0 8 i64s_u hi hz0 hz1 hz2 (.slice (some ⟨w3.heap.size, 0, none⟩) 0 0) 0 [] rfl (own_empty w3.drew _ _ _ (Nat.le_refl _)) (fun h => by cases h) (some (A2.add K)) (m - K) (cap2 - K) (L.drop K) rfl (by simp) (by have := HLEN.out; simp; omega) hx1 (by unfold maxLen; omega) (by omega) (by simp) ?_; intro A4 cap4 w4 hown4 hgrow4 hrd4 hcap6 hcap7; have hb4 : Below w3.heap.size w3 w4 := app_below2 (by assumption) hgrow4 (Nat.le_refl _); (try simp only [Nat.zero_add, List.nil_append] at hown4 hrd4 hcap6); (try simp only [Nat.zero_add]))
        | (have hx2 := Rd.take (HRD.out w4 (below_call HB3.out hb4 (Nat.le_refl _))) K; refine app_step .i64 rfl _ _ 22 rfl w3.heap.size 2 i0 8 i64s_u hi hz0 hz1 hz2 (.slice (some A4) (m - K) cap4) (m - K) (L.drop K) rfl hown4 (fun h => by cases h) (some A2) K cap2 (L.take K) rfl (by simp) (by have := HLEN.out; simp; omega) hx2 (by unfold maxLen; omega) (by omega) hb4.size ?_; intro A5 cap5 w5 hown5 hgrow5 hrd5 hcap8 hcap9; have hb5 : Below w3.heap.size w3 w5 := hb4.grown hgrow5 hb4.size (fun k hk => own_ge hown4 k hk)))
      all_goals go_wp2
      all_goals go_meet
      all_goals refine ⟨_, _, rfl, ?_, by omega, by unfold maxLen at hcap9; omega, hb5⟩
      all_goals rw [← HM.out]
      all_goals exact hrd5
  case rest =>
    obtain ⟨A5, cap5, rfl, hrd5, hcap8, hcap9, hb5⟩ := hcut
    have HB5 := Lib.hid (below_call HB2.out hb5 (Nat.le_refl _))
    have R2 : Hid (∀ w', Below wc.heap.size wc w' → Rd .i64 w' (some A2) L) := Lib.hid (fun w' h => (HRD.out wc (below_call HB3.out hb5 (Nat.le_refl _))).up h)
    have R3 : Hid (∀ w', Below wc.heap.size wc w' → Rd .i64 w' (some A3) L) := Lib.hid (fun w' h => (HR3.out wc hb5).up h)
    have R5 : Hid (∀ w', Below wc.heap.size wc w' → Rd .i64 w' (some A5) M) := Lib.hid (fun w' h => hrd5.up h)
    have q1 := (kv_perm HMP.out k).1
    have q2 := (kv_perm HMP.out k).2
    have q3 : kv M (((M.length : Int) - 1) / 2) = kv L (((L.length : Int) - 1) / 2) := by rw [HML.out, HLEN.out]; exact (kv_perm HMP.out _).1
    have q4 : kb M (((M.length : Int) - 1) / 2) = kb L (((L.length : Int) - 1) / 2) := by rw [HML.out, HLEN.out]; exact (kv_perm HMP.out _).2
    clear hrd5 hb5 hs1 hs2 hs3 hs4
    go_wp2_with (first
      | (go_at_call_of 10 (Value.slice (some A2) m cap2); (with_reducible refine (kth_any (some A2) m cap2 L k _ (by simp) hcap2 (by unfold maxLen; omega) (R2.out _ (by repeat' (first | (with_reducible exact Below.refl _ _) | (with_reducible assumption) | (with_reducible refine below_over ?_ _ _) | (with_reducible refine Lw.below_alloc ?_ _) | (with_reducible refine Below.drew ?_) | (with_reducible refine below_drewN ?_ _) | (with_reducible refine Below.setCell ?_ ?_ _) | go_size))) HLEN.out (by omega) HLZ.out k0 k1).mono ?_); rintro e w' ⟨rfl, hb⟩; obtain ⟨bs, d, rfl⟩ := below_grow hb; clear hb)
      | (go_at_call_of 10 (Value.slice (some A5) m cap5); (with_reducible refine (kth_any (some A5) m cap5 M k _ (by simp) hcap8 (by unfold maxLen; omega) (R5.out _ (by repeat' (first | (with_reducible exact Below.refl _ _) | (with_reducible assumption) | (with_reducible refine below_over ?_ _ _) | (with_reducible refine Lw.below_alloc ?_ _) | (with_reducible refine Below.drew ?_) | (with_reducible refine below_drewN ?_ _) | (with_reducible refine Below.setCell ?_ ?_ _) | go_size))) HML.out (by omega) HMZ.out k0 k1).mono ?_); rintro e w' ⟨rfl, hb⟩; obtain ⟨bs, d, rfl⟩ := below_grow hb; clear hb))
    go_loopw [14] (fun i wr => ∃ j : Nat, j ≤ m ∧ i = .int .i64 j ∧ Below wc.heap.size wc wr) (fun i _ => m - (intOf i).toNat)
    case atStart => exact ⟨0, Nat.zero_le _, rfl, by repeat' (first | (with_reducible exact Below.refl _ _) | (with_reducible assumption) | (with_reducible refine below_over ?_ _ _) | (with_reducible refine Lw.below_alloc ?_ _) | (with_reducible refine Below.drew ?_) | (with_reducible refine below_drewN ?_ _) | (with_reducible refine Below.setCell ?_ ?_ _) | go_size)⟩
    case round =>
      obtain ⟨j, hj, rfl, hbel⟩ := hrel
      have HBL := Lib.hid hbel
      by_cases hlt : j < m
      · have hjl : j < L.length := by have := HLEN.out; omega
        obtain ⟨v, hv⟩ : ∃ v, L[j]? = some v := ⟨_, List.getElem?_eq_getElem hjl⟩
        have hc1 := (R2.out _ hbel).at hv
        have hc2 := (R3.out _ hbel).at hv
        clear hv hbel
        go_wp2
        go_quiet (fail)
        go_wp2
        go_roundw
        case rel => exact ⟨j + 1, by omega, by go_num, below_drewN HBL.out _⟩
        case measure => simp [intOf]; omega
      · have e : j = m := by omega
        subst e
        clear hbel
        go_wp2_with (first
          | (go_at_call_of 12 (Value.slice (some A2) j cap2); (with_reducible refine (median_any (some A2) j cap2 L _ (by simp) hcap2 (by unfold maxLen; omega) (R2.out _ HBL.out) HLEN.out (by omega) HLZ.out).mono ?_); rintro e w' ⟨rfl, hb⟩; obtain ⟨bs, d, rfl⟩ := below_grow hb; clear hb)
          | (go_at_call_of 12 (Value.slice (some A5) j cap5); (with_reducible refine (median_any (some A5) j cap5 M _ (by simp) hcap8 (by unfold maxLen; omega) (R5.out _ (below_call HBL.out (grow_below _ _ _) (Nat.le_refl _))) HML.out (by omega) HMZ.out).mono ?_); rintro e w' ⟨rfl, hb⟩; obtain ⟨bs, d, rfl⟩ := below_grow hb; clear hb))
        all_goals go_ret
        all_goals refine ⟨ret_bool' (by first | rfl | (simp [*]; done)), ?_⟩
        all_goals exact below_over (below_call HB5.out HBL.out (Nat.le_refl _)) _ _
namespace orderTurned
open Go.ChangeShapes Go.WideShapes Go.ChangeAt Go.Joins
set_option maxRecDepth 100000 in
theorem lifted (os : Os) (started : os.Started) (H : Type) (enc : TypeId × Value → H) :
    ReturnsInHanded {} Try.checked os 6 .any (Rows.orderTurnedSpec.pre6 enc Try.prog Try.f6 Rows.orderTurnedRow.domain false) (Rows.orderTurnedSpec.post enc Try.prog Try.f6 false true false false) := by
  refine Lw.lifted (C := Try.checked) (B := 4) (by kernel_rfl) os started (by kernel_rfl) Try.func6
    (ChangeSpec.witness6 (enc := enc) (C := Try.checked) false ⟨#[], #[.slice none 0 0, .int .i64 0, .int .i64 0], []⟩ 8 (by kernel_rfl) (by kernel_rfl) (by kernel_rfl) (by kernel_rfl)) rfl Try.underlying4 (by kernel_rfl) (by kernel_rfl) (by kernel_rfl) ?_ ?_
  · intro ds h
    rw [Try.params6] at h
    match ds, h with
    | [_, _, _], _ => rfl
  · intro W base args ds p hval hA
    rw [Try.params6] at hA hval
    obtain ⟨v0, vs0, d0, ds0, p0, q0, hargs, rfl, rfl, h0, r0⟩ := trodAll_cons hA
    obtain ⟨v1, vs1, d1, ds1, p1, q1, rfl, rfl, rfl, h1, r1⟩ := trodAll_cons r0
    obtain ⟨v2, vs2, d2, ds2, p2, q2, rfl, rfl, rfl, h2, r2⟩ := trodAll_cons r1
    obtain ⟨rfl, rfl, rfl⟩ := trodAll_nil r2
    obtain rfl : args = #[v0, v1, v2] := by cases args; simp_all
    obtain ⟨A0, n0, c0, zs0, rfl, hA0, hn0, hc0, hr0, hl0, hz0⟩ := open_list_int64 (hval 0 22 v0 rfl rfl) h0
    obtain ⟨a1, rfl, rfl, rfl, w1⟩ := open_int Try.underlying3 (hval 1 3 v1 rfl rfl) h1
    have b1 := Lw.wf_i64 w1
    obtain ⟨a2, rfl, rfl, rfl, w2⟩ := open_int Try.underlying3 (hval 2 3 v2 rfl rfl) h2
    have b2 := Lw.wf_i64 w2
    exact turned_any A0 n0 c0 zs0 a1 a2 W hA0 hn0 hc0 hr0 hl0 hz0 b1.1 b1.2 b2.1 b2.2
theorem over : Rows.orderTurnedRow.holds Try.pinned (OpenSpec.ofChange Rows.orderTurnedSpec) :=
  OpenClaim.holds_of_wide 6 Try.f6 rfl rfl rfl rfl rfl rfl rfl ⟨rfl, rfl, rfl, rfl, rfl⟩ rfl rfl rfl rfl rfl (by kernel_rfl) Try.func6 (by kernel_rfl)
    (of_decide_eq_true (by kernel_rfl)) (by unfold Func.isWrapper; first | (rw [if_pos (by decide +kernel)]; kernel_rfl) | (rw [if_neg (by decide +kernel)]; exact ⟨rfl, rfl⟩))
    (fun os started H enc _ => lifted os started H enc)
theorem proved : Rows.OrderTurnedSaid :=
  over
#print axioms proved
end orderTurned
set_option maxRecDepth 100000 in
set_option maxHeartbeats 4000000 in
theorem moves_any (A : Option Addr) (n cap : Nat) (zs : List Int) (by' : Int) (w : World) (hA : A = none → n = 0 ∧ cap = 0) (hn : n ≤ cap) (hcap : cap ≤ maxLen) (hr : Rd .i32 w A zs) (hl : zs.length = n) (hz : ∀ v ∈ zs, -2147483648 ≤ v ∧ v ≤ 2147483647) (by0 : -2147483648 ≤ by') (by1 : by' ≤ 2147483647) :
    Calls Try.prog 7 #[.slice A n cap, .int .i32 by'] w fun e w' => e = .returned (.bool true) ∧ Below w.heap.size w w' := by
  obtain ⟨i0, hi, hz0, hz1, hz2⟩ := info_parts i64_info
  obtain ⟨m, hm⟩ : ∃ m : Nat, m = min n 200 := ⟨_, rfl⟩
  have hm1 : m ≤ 200 := by omega
  have hm2 : m ≤ n := by omega
  have hm3 : m = n ∨ m = 200 := by omega
  have HR := Lib.hid hr
  have HZ := Lib.hid hz
  have HL := Lib.hid hl
  clear hr hz hl hm hA
  unfold maxLen at hcap
  go_enter Try.func7, Try.ntmps7
  go_wp2_with (first
    | (go_at_call 9; (with_reducible refine (shown_any _).mono ?_); rintro e wS ⟨rfl, hbS⟩))
  go_loopw [6, 7, 8, 9] (fun a b c i wr => ∃ k : Nat, k ≤ m ∧ i = .int .i64 k ∧ wr.ownsRow wS.heap.size 2 1 a k ((zs.take k).map (Value.int .i64)) ∧ wr.ownsRow wS.heap.size 2 1 b k (((zs.take k).map (fun y => y + by')).map (Value.int .i64)) ∧ wr.ownsRow wS.heap.size 2 1 c k (((zs.take k).map (fun y => -y)).map (Value.int .i64)) ∧ Apart a b ∧ Apart a c ∧ Apart b c ∧ Below wS.heap.size wS wr) (fun _ _ _ i _ => m - (intOf i).toNat)
  case atStart => exact ⟨0, Nat.zero_le _, rfl, by simpa using World.ownsRow_nil _ _ _ _, by simpa using World.ownsRow_nil _ _ _ _, by simpa using World.ownsRow_nil _ _ _ _, apart_nil _, apart_nil _, apart_nil _, Below.refl _ _⟩
  case round =>
    obtain ⟨k, hk, rfl, hoa, hob, hoc, hab, hac, hbc, hbel⟩ := hrel
    have s1 := hbel.size
    by_cases hlt : k < m
    · have hkl : k < zs.length := by have := HL.out; omega
      obtain ⟨v, hv⟩ : ∃ v, zs[k]? = some v := ⟨_, List.getElem?_eq_getElem hkl⟩
      obtain ⟨ad, rfl, hcw⟩ := HR.out k v hv
      have hc0 := cell_up hcw (hbS.trans (hbel.mono hbS.size))
      have hvb := HZ.out v (List.mem_of_getElem? hv)
      have N1 := Lib.hid (take_next zs k v hv)
      have N2 := Lib.hid (map_next (fun y => y + by') zs k v hv)
      have N3 := Lib.hid (map_next (fun y => -y) zs k v hv)
      have hkn : (k : Int) < n := by omega
      have hk2 : (k : Int) < 200 := by omega
      clear hv
      go_wp2_with (first
        | (at_builtin; (refine app_one .i64 rfl _ _ 22 rfl wS.heap.size 2 i0 8 i64s_u hi hz0 hz1 hz2 _ k (zs.take k) rfl (hoa.alloc _) v wr.heap.size rfl (cell_one_new _ _ _) (by unfold maxLen; omega) (by omega) (by have := s1; simp; omega) ?_); intro v1 w1 own1 grow1 oth1; obtain ⟨ownB1, apB1⟩ := oth1 _ _ _ (hob.alloc _) hab.symm; obtain ⟨ownC1, apC1⟩ := oth1 _ _ _ (hoc.alloc _) hac.symm; have hl1 : Below wS.heap.size wS w1 := (hbel.alloc hbel.size _).grown grow1 (by have := hbel.size; simp; omega) (fun q hq => own_ge hoa q hq); have s2 := hl1.size; have hc1 : w1.cell? (ad.add k) = some (.int .i32 v) := cell_up (w := w) hcw (hbS.trans (hl1.mono hbS.size)))
        | (at_builtin; (refine app_one .i64 rfl _ _ 22 rfl wS.heap.size 2 i0 8 i64s_u hi hz0 hz1 hz2 _ k ((zs.take k).map (fun y => y + by')) rfl (ownB1.alloc _) (v + by') w1.heap.size rfl (cell_one_new _ _ _) (by unfold maxLen; omega) (by omega) (by have := s2; simp; omega) ?_); intro v2 w2 own2 grow2 oth2; obtain ⟨ownA2, apA2⟩ := oth2 _ _ _ (own1.alloc _) apB1.symm; obtain ⟨ownC2, apC2⟩ := oth2 _ _ _ (ownC1.alloc _) hbc.symm; have hl2 : Below wS.heap.size wS w2 := (hl1.alloc hl1.size _).grown grow2 (by have := hl1.size; simp; omega) (fun q hq => own_ge ownB1 q hq); have s3 := hl2.size; have hc2 : w2.cell? (ad.add k) = some (.int .i32 v) := cell_up (w := w) hcw (hbS.trans (hl2.mono hbS.size)))
        | (at_builtin; (refine app_one .i64 rfl _ _ 22 rfl wS.heap.size 2 i0 8 i64s_u hi hz0 hz1 hz2 _ k ((zs.take k).map (fun y => -y)) rfl (ownC2.alloc _) (-v) w2.heap.size rfl (cell_one_new _ _ _) (by unfold maxLen; omega) (by omega) (by have := s3; simp; omega) ?_); intro v3 w3 own3 grow3 oth3; obtain ⟨ownA3, apA3⟩ := oth3 _ _ _ (ownA2.alloc _) apC1.symm; obtain ⟨ownB3, apB3⟩ := oth3 _ _ _ (own2.alloc _) apC2.symm; have hl3 : Below wS.heap.size wS w3 := (hl2.alloc hl2.size _).grown grow3 (by have := hl2.size; simp; omega) (fun q hq => own_ge ownC2 q hq)))
      go_roundw
      case rel => exact ⟨k + 1, by omega, by go_num, by rw [N1.out]; exact ownA3, by rw [N2.out]; exact ownB3, by rw [N3.out]; exact own3, apA2, apA3, apB3, hl3⟩
      case measure => simp [intOf]; omega
    · have e : k = m := by omega
      subst e
      clear hlt
      obtain ⟨Aa, ca, rfl, ra, na, xa, za⟩ := own_rd hoa
      obtain ⟨Ab, cb, rfl, rb, nb, xb, zb⟩ := own_rd hob
      obtain ⟨Ac, cc, rfl, rc, nc, xc, zc⟩ := own_rd hoc
      obtain ⟨L, hL⟩ : ∃ L : List Int, L = zs.take k := ⟨_, rfl⟩
      rw [← hL] at ra rb rc
      have hlen : L.length = k := by rw [hL]; have := HL.out; simp; omega
      have hlz : ∀ v ∈ L, -2147483648 ≤ v ∧ v ≤ 2147483647 := by rw [hL]; exact fun v hv => HZ.out v (List.mem_of_mem_take hv)
      have HLZ : Hid (In64 L) := Lib.hid (fun v hv => by have := hlz v hv; omega)
      have HLZ2 : Hid (In64 (L.map (fun y => y + by'))) := Lib.hid (fun v hv => by obtain ⟨y, hy, rfl⟩ := List.mem_map.1 hv; have := hlz y hy; omega)
      have HLZ3 : Hid (In64 (L.map (fun y => -y))) := Lib.hid (fun v hv => by obtain ⟨y, hy, rfl⟩ := List.mem_map.1 hv; have := hlz y hy; omega)
      have b1 := kv_in L (((L.length : Int) - 1) / 2) (-2147483648) 2147483647 (by omega) (by omega) hlz
      have b2 := kv_in L ((L.length : Int) - 1) (-2147483648) 2147483647 (by omega) (by omega) hlz
      have HLEN := Lib.hid hlen
      have HB := Lib.hid (below_call hbS hbel (Nat.le_refl _))
      have RA := Lib.hid ra
      have RB := Lib.hid rb
      have RC := Lib.hid rc
      clear hL hlen hlz ra rb rc hoa hob hoc hab hac hbc hbel HL HZ HR
      have hlen2 : k = L.length := HLEN.out.symm
      subst hlen2
      have facts : kb (L.map (fun y => y + by')) ((((L.map (fun y => y + by')).length : Int) - 1) / 2) = kb L (((L.length : Int) - 1) / 2) ∧ kb (L.map (fun y => -y)) 0 = kb L ((L.length : Int) - 1) ∧ (kb L (((L.length : Int) - 1) / 2) = true → kv (L.map (fun y => y + by')) ((((L.map (fun y => y + by')).length : Int) - 1) / 2) = kv L (((L.length : Int) - 1) / 2) + by') ∧ kv (L.map (fun y => -y)) 0 = -kv L ((L.length : Int) - 1) := by
        by_cases h0 : L.length = 0
        · have p1 := kv_no (l := L) (k := ((L.length : Int) - 1) / 2) (by omega)
          have p2 := kv_no (l := L.map (fun y => y + by')) (k := (((L.map (fun y => y + by')).length : Int) - 1) / 2) (by rw [List.length_map]; omega)
          have p3 := kv_no (l := L.map (fun y => -y)) (k := 0) (by rw [List.length_map]; omega)
          have p4 := kv_no (l := L) (k := (L.length : Int) - 1) (by omega)
          exact ⟨by rw [p2.2, p1.2], by rw [p3.2, p4.2], fun h => (by rw [p1.2] at h; exact absurd h (by decide)), by rw [p3.1, p4.1]; rfl⟩
        · obtain ⟨q1, q2, q3, q4, q5, q6⟩ := moves L by' (by omega)
          exact ⟨by rw [q2, q3], by rw [q5, q6], fun _ => q1, q4⟩
      obtain ⟨f1, f2, f3, f4⟩ := facts
      obtain ⟨P, hP⟩ : ∃ P, kb L (((L.length : Int) - 1) / 2) = P := ⟨_, rfl⟩
      have hs : ((L.map (fun y => y + by')).length : Int) = L.length := by rw [List.length_map]
      rw [hs] at f1 f3
      rw [hP] at f1 f3
      have HF := Lib.hid f3
      clear f3
      have hm4 : ((L.length : Int) < n → ¬ (L.length : Int) < 200) := fun h => by omega
      have HM4 := Lib.hid hm4
      clear hm3 hm4 hk
      by_cases hkn : (L.length : Int) < n
      all_goals (try have hk2 := HM4.out hkn)
      all_goals cases P
      all_goals (try have f3 := HF.out rfl)
      all_goals go_wp2_with (first
        | (go_at_call_of 12 (Value.slice Aa L.length ca); (with_reducible refine (median_any Aa L.length ca L _ za na (by unfold maxLen; unfold maxLen at xa; omega) (RA.out.up (by repeat' (first | (with_reducible exact Below.refl _ _) | (with_reducible assumption) | (with_reducible refine below_over ?_ _ _) | (with_reducible refine Lw.below_alloc ?_ _) | (with_reducible refine Below.drew ?_) | (with_reducible refine below_drewN ?_ _) | (with_reducible refine Below.setCell ?_ ?_ _) | go_size))) rfl (by omega) HLZ.out).mono ?_); rintro e w' ⟨rfl, hb⟩; obtain ⟨bs, d, rfl⟩ := below_grow hb; clear hb)
        | (go_at_call_of 12 (Value.slice Ab L.length cb); (with_reducible refine (median_any Ab L.length cb (L.map (fun y => y + by')) _ zb nb (by unfold maxLen; unfold maxLen at xb; omega) (RB.out.up (by repeat' (first | (with_reducible exact Below.refl _ _) | (with_reducible assumption) | (with_reducible refine below_over ?_ _ _) | (with_reducible refine Lw.below_alloc ?_ _) | (with_reducible refine Below.drew ?_) | (with_reducible refine below_drewN ?_ _) | (with_reducible refine Below.setCell ?_ ?_ _) | go_size))) (by rw [List.length_map]) (by omega) HLZ2.out).mono ?_); rintro e w' ⟨rfl, hb⟩; obtain ⟨bs, d, rfl⟩ := below_grow hb; clear hb)
        | (go_at_call_of 11 (Value.slice Ac L.length cc); (with_reducible refine (min_any Ac L.length cc (L.map (fun y => -y)) _ zc nc (by unfold maxLen; unfold maxLen at xc; omega) (RC.out.up (by repeat' (first | (with_reducible exact Below.refl _ _) | (with_reducible assumption) | (with_reducible refine below_over ?_ _ _) | (with_reducible refine Lw.below_alloc ?_ _) | (with_reducible refine Below.drew ?_) | (with_reducible refine below_drewN ?_ _) | (with_reducible refine Below.setCell ?_ ?_ _) | go_size))) (by rw [List.length_map]) (by omega) HLZ3.out).mono ?_); rintro e w' ⟨rfl, hb⟩; obtain ⟨bs, d, rfl⟩ := below_grow hb; clear hb)
        | (go_at_call_of 10 (Value.slice Aa L.length ca); (with_reducible refine (kth_any Aa L.length ca L ((L.length : Int) - 1) _ za na (by unfold maxLen; unfold maxLen at xa; omega) (RA.out.up (by repeat' (first | (with_reducible exact Below.refl _ _) | (with_reducible assumption) | (with_reducible refine below_over ?_ _ _) | (with_reducible refine Lw.below_alloc ?_ _) | (with_reducible refine Below.drew ?_) | (with_reducible refine below_drewN ?_ _) | (with_reducible refine Below.setCell ?_ ?_ _) | go_size))) rfl (by omega) HLZ.out (by omega) (by omega)).mono ?_); rintro e w' ⟨rfl, hb⟩; obtain ⟨bs, d, rfl⟩ := below_grow hb; clear hb))
      all_goals go_ret
      all_goals refine ⟨ret_bool' (by first | rfl | (simp [*]; done)), ?_⟩
      all_goals exact below_over HB.out _ _
theorem lst_int32_c : Try.prog.cellsOf 21 = 1 := by kernel_rfl
theorem open_list_int32 {H : Type} {enc : TypeId × Value → H} {W : World} {v : Value} {d : DataW H} {p : List MemPlace} {base : Nat} (hv : Value.okWide Try.prog W .any base 30 v)
    (h : DataW.Trod enc Try.prog W 0 (fun _ => true) true 30 v d p) :
    ∃ (A : Option Addr) (n cap : Nat) (zs : List Int), v = .slice A n cap ∧ (A = none → n = 0 ∧ cap = 0) ∧ n ≤ cap ∧ cap ≤ maxLen ∧ Rd .i32 W A zs ∧ zs.length = n ∧ (∀ v ∈ zs, -2147483648 ≤ v ∧ v ≤ 2147483647) := by
  obtain ⟨a0, len, cap, rfl⟩ := Go.WideShapes.okWide_slice Try.underlying30 hv
  obtain ⟨fuel, hf⟩ := h
  rcases Go.ChangeShapes.open_ints Try.underlying30 Try.underlying21 lst_int32_c hf with ⟨hcs, _⟩ | ⟨a, len', cap', zs, hcs, _, hl, hm, hz, _, hcell, hwz⟩
  · simp [Value.cells] at hcs
    obtain ⟨rfl, rfl, rfl⟩ := hcs
    exact ⟨none, 0, 0, [], rfl, fun _ => ⟨rfl, rfl⟩, Nat.le_refl _, by simp, rd_nil _ _ _, rfl, fun v h => by simp at h⟩
  · simp [Value.cells] at hcs
    obtain ⟨rfl, rfl, rfl⟩ := hcs
    have hz2 : zs.length = cap := by simpa using hz
    refine ⟨some a, len, cap, zs.take len, rfl, (fun h => by cases h), hl, hm, ?_, by simp; omega, ?_⟩
    · intro k v hk
      rw [List.getElem?_take] at hk
      split at hk
      · refine ⟨a, rfl, ?_⟩
        rw [hcell k (by omega)]
        simp [hk]
      · cases hk
    · intro v hv
      exact Lw.wf_i32 (hwz v (List.mem_of_mem_take hv))
namespace orderMoves
open Go.ChangeShapes Go.WideShapes Go.ChangeAt Go.Joins
set_option maxRecDepth 100000 in
theorem lifted (os : Os) (started : os.Started) (H : Type) (enc : TypeId × Value → H) :
    ReturnsInHanded {} Try.checked os 7 .any (Rows.orderMovesSpec.pre6 enc Try.prog Try.f7 Rows.orderMovesRow.domain false) (Rows.orderMovesSpec.post enc Try.prog Try.f7 false true false false) := by
  refine Lw.lifted (C := Try.checked) (B := 4) (by kernel_rfl) os started (by kernel_rfl) Try.func7
    (ChangeSpec.witness6 (enc := enc) (C := Try.checked) false ⟨#[], #[.slice none 0 0, .int .i32 0], []⟩ 8 (by kernel_rfl) (by kernel_rfl) (by kernel_rfl) (by kernel_rfl)) rfl Try.underlying4 (by kernel_rfl) (by kernel_rfl) (by kernel_rfl) ?_ ?_
  · intro ds h
    rw [Try.params7] at h
    match ds, h with
    | [_, _], _ => rfl
  · intro W base args ds p hval hA
    rw [Try.params7] at hA hval
    obtain ⟨v0, vs0, d0, ds0, p0, q0, hargs, rfl, rfl, h0, r0⟩ := trodAll_cons hA
    obtain ⟨v1, vs1, d1, ds1, p1, q1, rfl, rfl, rfl, h1, r1⟩ := trodAll_cons r0
    obtain ⟨rfl, rfl, rfl⟩ := trodAll_nil r1
    obtain rfl : args = #[v0, v1] := by cases args; simp_all
    obtain ⟨A0, n0, c0, zs0, rfl, hA0, hn0, hc0, hr0, hl0, hz0⟩ := open_list_int32 (hval 0 30 v0 rfl rfl) h0
    obtain ⟨a1, rfl, rfl, rfl, w1⟩ := open_int Try.underlying21 (hval 1 21 v1 rfl rfl) h1
    have b1 := Lw.wf_i32 w1
    exact moves_any A0 n0 c0 zs0 a1 W hA0 hn0 hc0 hr0 hl0 hz0 b1.1 b1.2
theorem over : Rows.orderMovesRow.holds Try.pinned (OpenSpec.ofChange Rows.orderMovesSpec) :=
  OpenClaim.holds_of_wide 7 Try.f7 rfl rfl rfl rfl rfl rfl rfl ⟨rfl, rfl, rfl, rfl, rfl⟩ rfl rfl rfl rfl rfl (by kernel_rfl) Try.func7 (by kernel_rfl)
    (of_decide_eq_true (by kernel_rfl)) (by unfold Func.isWrapper; first | (rw [if_pos (by decide +kernel)]; kernel_rfl) | (rw [if_neg (by decide +kernel)]; exact ⟨rfl, rfl⟩))
    (fun os started H enc _ => lifted os started H enc)
theorem proved : Rows.OrderMovesSaid :=
  over
#print axioms proved
end orderMoves
end Go.Proofs.Ytbnbkcbillohhaa.Ord
