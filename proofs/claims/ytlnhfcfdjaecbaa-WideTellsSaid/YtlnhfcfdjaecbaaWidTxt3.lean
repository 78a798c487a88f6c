/- The walk of Text. -/
import Derived.Test.YtlnhfcfdjaecbaaWidTxt2
namespace Go.Proofs.Ytlnhfcfdjaecbaa.Wid
open Go.RowKit
set_option linter.unusedVariables false
theorem ub_of (m : Nat) : ub (UInt8.ofNat (48 + m % 10)) = .int .u8 ((48 + m % 10 : Nat) : Int) := by
  unfold ub; rw [UInt8.toNat_ofNat']; congr 2; omega
theorem text_zero (w : World) :
    Calls Try.prog 24 #[.agg #[.int .i64 0, .int .u64 0]] w fun e w' => e = .returned (.string ⟨(tx 0).toArray⟩) ∧ Below w.heap.size w w' := by
  go_enter Try.func24, Try.ntmps24
  go_wp2
  go_ret
  exact ⟨rfl, by go_grown⟩
theorem own_ge {w : World} {base : Nat} {e : TypeId} {size : Nat} {v : Value} {n : Nat} {xs : List Value} (h : w.ownsRow base e size v n xs) : ∀ k, v.ownBlock = some k → base ≤ k := by
  obtain ⟨_, h2⟩ := h
  rcases h2 with ⟨rfl, _⟩ | ⟨g, cap, cur, rfl, hbase, _⟩
  · intro k hk; simp [Value.ownBlock] at hk
  · intro k hk; simp [Value.ownBlock] at hk; omega
theorem meas (m : Nat) (h : m ≠ 0) : (intOf (.int .u64 ((m : Int) / 10 / 18446744073709551616)) * 18446744073709551616 + intOf (.int .u64 ((m : Int) / 10 % 18446744073709551616))).toNat < (intOf (.int .u64 ((m : Int) / 18446744073709551616)) * 18446744073709551616 + intOf (.int .u64 ((m : Int) % 18446744073709551616))).toNat := by
  have h1 : (m : Int) / 10 / 18446744073709551616 * 18446744073709551616 + (m : Int) / 10 % 18446744073709551616 = (m : Int) / 10 := by omega
  have h2 : (m : Int) / 18446744073709551616 * 18446744073709551616 + (m : Int) % 18446744073709551616 = (m : Int) := by omega
  simp only [intOf]
  rw [h1, h2]; omega
theorem add0 (g j : Nat) : (⟨g, 0, none⟩ : Addr).add j = ⟨g, j, none⟩ := by unfold Addr.add; split <;> simp_all
theorem own_form {w : World} {base : Nat} {e : TypeId} {size : Nat} {v : Value} {n : Nat} {xs : List Value} (h : w.ownsRow base e size v n xs) (hn : 0 < n) : ∃ g cap, v = .slice (some ⟨g, 0, none⟩) n cap ∧ base ≤ g ∧ g < w.heap.size := by
  obtain ⟨_, h2⟩ := h
  rcases h2 with ⟨_, h0⟩ | ⟨g, cap, cur, rfl, hbase, hh, _⟩
  · omega
  · refine ⟨g, cap, rfl, hbase, ?_⟩
    rcases Nat.lt_or_ge g w.heap.size with hlt | hge
    · exact hlt
    · rw [Array.getElem?_eq_none hge] at hh; cases hh
def Gath (w : World) (W1 : World) (N : Nat) (v a b : Value) (wr : World) (m : Nat) : Prop :=
  a = .int .u64 ((m : Int) / 18446744073709551616) ∧ b = .int .u64 ((m : Int) % 18446744073709551616) ∧ m < 340282366920938463463374607431768211456 ∧
  ∃ K : List UInt8, K ++ ds m = ds N ∧ wr.ownsRow (w.heap.size + 1) 5 1 v K.length (K.map ub) ∧ Below (w.heap.size + 1) W1 wr
theorem Gath.next {w W1 : World} {N : Nat} {v v' a b : Value} {wr w1 w2 : World} {m : Nat} (K : List UInt8) (hm : m ≠ 0) (hm2 : m < 340282366920938463463374607431768211456) (hK : K ++ ds m = ds N) (hB : w.heap.size + 1 ≤ W1.heap.size)
    (hbel : Below (w.heap.size + 1) W1 wr) (hb : Below wr.heap.size wr w1) (hown0 : wr.ownsRow (w.heap.size + 1) 5 1 v K.length (K.map ub)) {o : Obj}
    (hown : w2.ownsRow (w.heap.size + 1) 5 1 v' (K.length + 1) (K.map ub ++ [.int .u8 (48 + (m : Int) % 10)])) (hgrow : (w1.alloc o).grownBy w2 v.ownBlock)
    (ha : a = .int .u64 ((m : Int) / 10 / 18446744073709551616)) (hb2 : b = .int .u64 ((m : Int) / 10 % 18446744073709551616)) : Gath w W1 N v' a b w2 (m / 10) := by
  refine ⟨by rw [ha]; simp, by rw [hb2]; simp, by omega, K ++ [UInt8.ofNat (48 + m % 10)], ?_, ?_, ?_⟩
  · rw [← hK, ds_step m hm]; simp
  · have e : (K ++ [UInt8.ofNat (48 + m % 10)]).map ub = K.map ub ++ [.int .u8 (48 + (m : Int) % 10)] := by
      rw [List.map_append, List.map_singleton, ub_of]; simp
    rw [e]; simpa using hown
  · have h1 := below_call hbel hb hB
    exact (h1.alloc (by have := h1.size; omega) o).grown hgrow (by have := h1.size; simp; omega) (fun k hk => own_ge hown0 k hk)
theorem neg_cells {w : World} {base g cap n : Nat} {K : List UInt8} (h : w.ownsRow base 5 1 (.slice (some ⟨g, 0, none⟩) n cap) n (K.map ub ++ [.int .u8 45])) : Hid (∀ j u, (K ++ [45])[j]? = some u → w.cell? ⟨g, j, none⟩ = some (ub u)) := by
  intro j u hj
  have h2 := h.cells (g := g) rfl j (ub u) (by
    have e : K.map ub ++ [Value.int .u8 45] = (K ++ [45]).map ub := by simp [ub]
    rw [e, List.getElem?_map, hj]; rfl)
  rwa [add0] at h2
set_option maxHeartbeats 1000000 in
theorem text_pos (p q : Int) (w : World) (p0 : 0 ≤ p) (p1 : p ≤ 9223372036854775807) (q0 : 0 ≤ q) (q1 : q ≤ 18446744073709551615) (hz : vl p q ≠ 0) :
    Calls Try.prog 24 #[.agg #[.int .i64 p, .int .u64 q]] w fun e w' => e = .returned (.string ⟨(tx (vl p q)).toArray⟩) ∧ Below w.heap.size w w' := by
  obtain ⟨i0, hi, hz0, hz1, hz2⟩ := info_parts u8_info
  obtain ⟨N, hN⟩ : ∃ N : Nat, vl p q = N := ⟨(vl p q).toNat, by unfold vl at *; omega⟩
  have hN0 : 0 < N := by omega
  have hN1 : N < 340282366920938463463374607431768211456 := by unfold vl at hN; omega
  have hAbs : (vl p q).natAbs = N := by omega
  have eN : tx (vl p q) = (ds N).reverse := by unfold tx; rw [hAbs, if_neg (by omega), if_neg (by omega)]; rfl
  clear hAbs
  have EN := Lib.hid eN
  have hlen := ds_len128 N hN1
  have hne := ds_ne N (by omega)
  have hne2 : 0 < (ds N).length := List.length_pos_iff.2 hne
  have HLEN := Lib.hid (And.intro hlen hne2)
  have hc0 : ∀ w', Below (w.heap.size + 1) (w.alloc (.cells #[.int .i64 p, .int .u64 q] 24)) w' → w'.cell? ⟨w.heap.size, 0, none⟩ = some (.int .i64 p) := fun w' h => (h.cell (by simp)).trans (by simp [go_sem])
  have HZ : Hid (p = 0 → q ≠ 0) := by intro h h2; apply hz; unfold vl; omega
  clear hz eN hlen hne hne2
  cases hp : (p == 0)
  all_goals (try (have hq : (q == 0) = false := by simpa using HZ.out (by simpa using hp)))
  all_goals
    go_enter Try.func24, Try.ntmps24
    go_wp2_with (go_at_call 36; refine (size_pos _ _ _ (by omega) (by omega) (by omega) (by omega)).mono ?_; rintro e w1 ⟨rfl, hb⟩)
    have HN := Lib.hid hN
    clear hN
    go_loopw [3, 4, 5] (fun v a b wr => ∃ m : Nat, Gath w (w.alloc (.cells #[.int .i64 p, .int .u64 q] 24)) N v a b wr m) (fun _ a b _ => (intOf a * 18446744073709551616 + intOf b).toNat)
    case atStart => exact ⟨N, rfl, rfl, hN1, [], by simp, World.ownsRow_nil _ _ _ _, hb.mono (by simp)⟩
    case round =>
      obtain ⟨m, rfl, rfl, hm2, K, hK, hown, hbel⟩ := hrel
      have hkl : K.length ≤ 39 := by
        have h := congrArg List.length hK
        have := HLEN.out.1
        simp at h; omega
      have HK := Lib.hid hK
      have hsz := hbel.size
      simp only [World.size_alloc] at hsz
      clear hK
      by_cases hm : m = 0
      · subst hm
        rw [ds_zero, List.append_nil] at HK
        have hk0 : 0 < K.length := by rw [HK.out]; exact HLEN.out.2
        obtain ⟨g, cap, rfl, hge, hlt⟩ := own_form hown hk0
        have hcp := hc0 wr hbel
        skip
        have hcs : ∀ j u, (K)[j]? = some u → wr.cell? ⟨g, j, none⟩ = some (ub u) := fun j u hj => by
          have h := hown.cells (g := g) rfl j (ub u) (by rw [List.getElem?_map, hj]; rfl)
          rwa [add0] at h
        have HCS := Lib.hid hcs
        clear hcs
        go_wp2_with (go_at_call 38; go_must (refine (reversed_any g _ cap K _ rfl hk0 (by omega) (by omega) HCS.out).mono ?_); rintro e w2 ⟨rfl, hb2⟩)
        go_ret
        refine ⟨by rw [EN.out, ← HK.out]; rfl, ?_⟩
        exact below_call (below_box hbel) hb2 (Nat.le_refl _)
      · have e1 : ((m : Int) / 18446744073709551616 * 18446744073709551616 + (m : Int) % 18446744073709551616) = m := by omega
        have e2 : (0 : Int) ≤ m := by omega
        by_cases hh : (m : Int) / 18446744073709551616 = 0
        all_goals (first | (have t1 : ((m : Int) / 18446744073709551616 != 0) = false := by simpa using hh) | (have t1 : ((m : Int) / 18446744073709551616 != 0) = true := by simpa using hh))
        all_goals (try (have t2 : ((m : Int) % 18446744073709551616 != 0) = true := by (rw [bne_iff_ne]; omega)))
        all_goals
          clear hh
          go_wp2_with fail
          refine (tenth_any _ _ _ (by omega) (by omega) (by omega) (by omega)).mono ?_
          rintro e w1 ⟨rfl, hb⟩
          rw [e1]
          have hown1 := own_below hown hb
          have hs1 := hb.size
          go_wp2_with (at_builtin; go_must (refine wpList_append_own _ rfl _ _ 57 rfl (w.heap.size + 1) 5 i0 (.int .u8 0) 1 1 u8s_u hi hz0 hz1 hz2 rfl (by decide) _ _ _ rfl (hown1.alloc _) ⟨w1.heap.size, 0, none⟩ 1 1 [.int .u8 (48 + (m : Int) % 10)] rfl rfl (cell_one_new _ _ _) (by intro x hx; simp at hx; subst hx; rfl) (by unfold maxLen; omega) (by omega) (by simp; omega) ?_); intro v' w2 hown2 hgrow2 _)
          go_roundw
          case rel => exact ⟨m / 10, Gath.next K hm hm2 HK.out (by simp) hbel hb hown hown2 hgrow2 rfl rfl⟩
          case measure => exact meas m hm
set_option maxHeartbeats 1000000 in
theorem text_neg (p q : Int) (w : World) (p0 : -9223372036854775808 ≤ p) (p1 : p < 0) (q0 : 0 ≤ q) (q1 : q ≤ 18446744073709551615) (hz : vl p q ≠ 0) :
    Calls Try.prog 24 #[.agg #[.int .i64 p, .int .u64 q]] w fun e w' => e = .returned (.string ⟨(tx (vl p q)).toArray⟩) ∧ Below w.heap.size w w' := by
  obtain ⟨i0, hi, hz0, hz1, hz2⟩ := info_parts u8_info
  obtain ⟨N, hN⟩ : ∃ N : Nat, -vl p q = N := ⟨(-vl p q).toNat, by unfold vl at *; omega⟩
  have hN0 : 0 < N := by omega
  have hN1 : N < 340282366920938463463374607431768211456 := by unfold vl at hN; omega
  have hAbs : (vl p q).natAbs = N := by omega
  have eN : tx (vl p q) = 45 :: (ds N).reverse := by unfold tx; rw [hAbs, if_pos (by omega), if_neg (by omega)]; rfl
  clear hAbs
  have EN := Lib.hid eN
  have hlen := ds_len128 N hN1
  have hne := ds_ne N (by omega)
  have hne2 : 0 < (ds N).length := List.length_pos_iff.2 hne
  have HLEN := Lib.hid (And.intro hlen hne2)
  have hc0 : ∀ w', Below (w.heap.size + 1) (w.alloc (.cells #[.int .i64 p, .int .u64 q] 24)) w' → w'.cell? ⟨w.heap.size, 0, none⟩ = some (.int .i64 p) := fun w' h => (h.cell (by simp)).trans (by simp [go_sem])
  have HZ : Hid (p = 0 → q ≠ 0) := by intro h h2; apply hz; unfold vl; omega
  clear hz eN hlen hne hne2
  cases hp : (p == 0)
  all_goals (try (have hq : (q == 0) = false := by simpa using HZ.out (by simpa using hp)))
  all_goals
    go_enter Try.func24, Try.ntmps24
    go_wp2_with (go_at_call 36; refine (size_neg _ _ _ (by omega) (by omega) (by omega) (by omega)).mono ?_; rintro e w1 ⟨rfl, hb⟩)
    have HN := Lib.hid hN
    clear hN
    go_loopw [3, 4, 5] (fun v a b wr => ∃ m : Nat, Gath w (w.alloc (.cells #[.int .i64 p, .int .u64 q] 24)) N v a b wr m) (fun _ a b _ => (intOf a * 18446744073709551616 + intOf b).toNat)
    case atStart => exact ⟨N, rfl, rfl, hN1, [], by simp, World.ownsRow_nil _ _ _ _, hb.mono (by simp)⟩
    case round =>
      obtain ⟨m, rfl, rfl, hm2, K, hK, hown, hbel⟩ := hrel
      have hkl : K.length ≤ 39 := by
        have h := congrArg List.length hK
        have := HLEN.out.1
        simp at h; omega
      have HK := Lib.hid hK
      have hsz := hbel.size
      simp only [World.size_alloc] at hsz
      clear hK
      by_cases hm : m = 0
      · subst hm
        rw [ds_zero, List.append_nil] at HK
        have hk0 : 0 < K.length := by rw [HK.out]; exact HLEN.out.2
        obtain ⟨g, cap, rfl, hge, hlt⟩ := own_form hown hk0
        have hcp := hc0 wr hbel
        skip
        go_wp2_with (at_builtin; go_must (refine wpList_append_own _ rfl _ _ 57 rfl (w.heap.size + 1) 5 i0 (.int .u8 0) 1 1 u8s_u hi hz0 hz1 hz2 rfl (by decide) _ _ _ rfl (hown.alloc _) ⟨wr.heap.size, 0, none⟩ 1 1 [.int .u8 45] rfl rfl (cell_one_new _ _ _) (by intro x hx; simp at hx; subst hx; rfl) (by unfold maxLen; omega) (by omega) (by simp; omega) ?_); intro v' w2 hown2 hgrow2 _; obtain ⟨g2, cap2, rfl, hge2, hlt2⟩ := own_form hown2 (by omega); have HCS := neg_cells hown2)
        go_wp2_with (go_at_call 38; go_must (refine (reversed_any g2 _ cap2 (K ++ [45]) _ (by simp) (by omega) (by omega) (by omega) HCS.out).mono ?_); rintro e w3 ⟨rfl, hb3⟩)
        go_ret
        refine ⟨by rw [EN.out, ← HK.out]; simp, ?_⟩
        have hb4 := (hbel.alloc (by have := hbel.size; simp at this; omega) _).grown hgrow2 (by have := hbel.size; simp at this ⊢; omega) (fun k hk => own_ge hown k hk)
        exact below_call (below_box hb4) hb3 (Nat.le_refl _)
      · have e1 : ((m : Int) / 18446744073709551616 * 18446744073709551616 + (m : Int) % 18446744073709551616) = m := by omega
        have e2 : (0 : Int) ≤ m := by omega
        by_cases hh : (m : Int) / 18446744073709551616 = 0
        all_goals (first | (have t1 : ((m : Int) / 18446744073709551616 != 0) = false := by simpa using hh) | (have t1 : ((m : Int) / 18446744073709551616 != 0) = true := by simpa using hh))
        all_goals (try (have t2 : ((m : Int) % 18446744073709551616 != 0) = true := by (rw [bne_iff_ne]; omega)))
        all_goals
          clear hh
          go_wp2_with fail
          refine (tenth_any _ _ _ (by omega) (by omega) (by omega) (by omega)).mono ?_
          rintro e w1 ⟨rfl, hb⟩
          rw [e1]
          have hown1 := own_below hown hb
          have hs1 := hb.size
          go_wp2_with (at_builtin; go_must (refine wpList_append_own _ rfl _ _ 57 rfl (w.heap.size + 1) 5 i0 (.int .u8 0) 1 1 u8s_u hi hz0 hz1 hz2 rfl (by decide) _ _ _ rfl (hown1.alloc _) ⟨w1.heap.size, 0, none⟩ 1 1 [.int .u8 (48 + (m : Int) % 10)] rfl rfl (cell_one_new _ _ _) (by intro x hx; simp at hx; subst hx; rfl) (by unfold maxLen; omega) (by omega) (by simp; omega) ?_); intro v' w2 hown2 hgrow2 _)
          go_roundw
          case rel => exact ⟨m / 10, Gath.next K hm hm2 HK.out (by simp) hbel hb hown hown2 hgrow2 rfl rfl⟩
          case measure => exact meas m hm
theorem text_any (p q : Int) (w : World) (p0 : -9223372036854775808 ≤ p) (p1 : p ≤ 9223372036854775807) (q0 : 0 ≤ q) (q1 : q ≤ 18446744073709551615) :
    Calls Try.prog 24 #[.agg #[.int .i64 p, .int .u64 q]] w fun e w' => e = .returned (.string ⟨(tx (vl p q)).toArray⟩) ∧ Below w.heap.size w w' := by
  by_cases hz : vl p q = 0
  · have hp : p = 0 := by unfold vl at hz; omega
    have hq : q = 0 := by unfold vl at hz; omega
    subst hp; subst hq
    exact text_zero w
  · by_cases h : p < 0
    · exact text_neg p q w p0 h q0 q1 hz
    · exact text_pos p q w (by omega) p1 q0 q1 hz
end Go.Proofs.Ytlnhfcfdjaecbaa.Wid
