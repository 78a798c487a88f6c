/- The statement WideSplit holds: sums of parts are the sum of all, in whatever order, and products may be multiplied out, for any numbers (five hundred), cut anywhere, and three numbers below 2 to the power of 31. -/
import Derived.Test.YtlnhfcfdjaecbaaWidShown
import Derived.Test.YtlnhfcfdjaecbaaWidMul
import Derived.Test.YtlnhfcfdjaecbaaGrow
import Derived.Test.YtlnhfcfdjaecbaaLaw
import Derived.Test.YtlnhfcfdjaecbaaWidSpl
import Derived.Test.YtlnhfcfdjaecbaaWidTxt3
import Derived.Deep.LoopGhost
namespace Go.Proofs.Ytlnhfcfdjaecbaa.Wid
open Go.RowKit Lw
set_option linter.unusedVariables false
theorem wide_cells : Try.prog.cellsOf 24 = 2 := by kernel_rfl
theorem wf_i64 {x : Int} (h : (Lit.int .i64 x).wf = true) : -9223372036854775808 ≤ x ∧ x ≤ 9223372036854775807 := by
  have := (Lit.wf_int_iff .i64 x).1 h
  simpa [IntKind.min, IntKind.max, IntKind.bits, IntKind.signed] using this
theorem wf_u64 {x : Int} (h : (Lit.int .u64 x).wf = true) : 0 ≤ x ∧ x ≤ 18446744073709551615 := by
  have := (Lit.wf_int_iff .u64 x).1 h
  simpa [IntKind.min, IntKind.max, IntKind.bits, IntKind.signed] using this
set_option maxRecDepth 100000 in
set_option maxHeartbeats 4000000 in
theorem split_some (ad : Addr) (n cap : Nat) (zs : List Int) (aa x0 x1 x2 : Int) (w : World) (hn : n ≤ cap) (hcap : cap ≤ maxLen) (hr : RdI w (some ad) zs) (hl : zs.length = n) (hz : In64 zs)
    (aa0 : -9223372036854775808 ≤ aa) (aa1 : aa ≤ 9223372036854775807) (x00 : -2147483648 ≤ x0) (x01 : x0 ≤ 2147483647) (x10 : -2147483648 ≤ x1) (x11 : x1 ≤ 2147483647) (x20 : -2147483648 ≤ x2) (x21 : x2 ≤ 2147483647) :
    Calls Try.prog 10 #[.slice (some ad) n cap, .int .i64 aa, .agg #[.int .i32 x0, .int .i32 x1, .int .i32 x2]] w fun e w' => e = .returned (.bool true) ∧ Below w.heap.size w w' := by
  unfold maxLen at hcap
  obtain ⟨i0, hi, hz0, hz1, hz2⟩ := info_parts i64_info
  have HR := Lib.hid hr
  have HZ := Lib.hid hz
  obtain ⟨m, hmin⟩ : ∃ m : Nat, (if (500 : Int) < n then 500 else (n : Int)) = m := ⟨min n 500, by split <;> omega⟩
  have hm1 : m ≤ 500 := by split at hmin <;> omega
  have hm2 : m ≤ n := by split at hmin <;> omega
  have hm3 : m ≤ zs.length := by omega
  obtain ⟨K, hK⟩ : ∃ K : Nat, aa % 65536 % ((m : Int) + 1) = K := ⟨(aa % 65536 % ((m : Int) + 1)).toNat, by rw [Int.toNat_of_nonneg (Int.emod_nonneg _ (by omega))]⟩
  have hK2 : K ≤ m := by
    have := Int.emod_lt_of_pos (aa % 65536) (b := (m : Int) + 1) (by omega)
    omega
  have ha := and16i aa
  have ha0 : 0 ≤ aa % 65536 := by omega
  clear hr hl hz
  go_enter Try.func10, Try.ntmps10
  go_wp2_with (first
    | (go_at_call 11; (with_reducible refine (shown_any _).mono ?_); rintro e wS ⟨rfl, hbS⟩)
    | (at_builtin; go_must (refine wpList_append_own _ rfl _ _ 44 rfl w.heap.size 2 i0 (.int .i64 0) 1 8 i64s_u hi hz0 hz1 hz2 rfl (by decide) _ 0 [] rfl (own_empty wS _ _ _ (by have := hbS.size; simp at this; omega)) ad m cap ((zs.take m).map (Value.int .i64)) rfl (by simp; omega) (rd_news HR.out ((Lw.below_alloc (Below.refl _ _) _).trans ((hbS.mono (by simp)).alloc (by have := hbS.size; simp at this; omega) _)) m) (one_ints _) (by unfold maxLen; omega) (by omega) (by have := hbS.size; simp at this ⊢; omega) ?_); intro v' w2 hown2 hgrow2 _; have hb2 := app_below hgrow2 (Nat.le_refl _); rw [List.nil_append, Nat.zero_add] at hown2; obtain ⟨A2, cap2, rfl, hrd2, hcap2, hcap3, hnil2⟩ := own_rd hown2; clear hown2 hgrow2))
  rw [hK]
  have HK := Lib.hid hK
  clear hK
  obtain ⟨L, hL⟩ : ∃ L : List Int, L = zs.take m := ⟨_, rfl⟩
  rw [← hL] at hrd2
  have hlen : L.length = m := by rw [hL]; simp; omega
  have HLZ : Hid (In64 L) := by simp only [Hid]; rw [hL]; exact in64_take HZ.out m
  have HLEN := Lib.hid hlen
  have kS0 : World.cell? wS ⟨w.heap.size, 0, none⟩ = some (.int .i32 x0) := cell_on hbS (by simp [go_sem])
  have kS1 : World.cell? wS ⟨w.heap.size, 1, none⟩ = some (.int .i32 x1) := cell_on hbS (by simp [go_sem])
  have kS2 : World.cell? wS ⟨w.heap.size, 2, none⟩ = some (.int .i32 x2) := cell_on hbS (by simp [go_sem])
  have k20 := cell_on hb2 kS0
  have k21 := cell_on hb2 kS1
  have k22 := cell_on hb2 kS2
  have HB2 := Lib.hid (below_call (below_call (Lw.below_alloc (Below.refl w.heap.size w) _) hbS (Nat.le_refl _)) hb2 (Nat.le_refl _))
  have HRD := Lib.hid hrd2
  clear hL hlen kS0 kS1 kS2 hrd2 hbS hb2 hmin ha ha0
  go_loopw [8, 9] (fun v i wr => ∃ j : Nat, j ≤ m ∧ i = .int .i64 ((m : Int) - 1 - j) ∧ wr.ownsRow w2.heap.size 2 1 v j ((L.reverse.take j).map (Value.int .i64)) ∧ Below w2.heap.size w2 wr) (fun _ i _ => (intOf i + 1).toNat)
  case atStart => exact ⟨0, Nat.zero_le _, by go_num, by simpa using own_empty w2 2 1 w2.heap.size (Nat.le_refl _), Lw.below_alloc (Below.refl _ _) _⟩
  case round =>
    obtain ⟨j, hj, rfl, hown, hbel⟩ := hrel
    by_cases hlt : j < m
    · obtain ⟨t, ht⟩ : ∃ t : Nat, t + (j + 1) = m := ⟨m - (j + 1), by omega⟩
      have e : ((m : Int) - 1 - j) = (t : Int) := by omega
      have htl : t < L.length := by have := HLEN.out; omega
      obtain ⟨v, hv⟩ : ∃ v, v = L[t] := ⟨_, rfl⟩
      obtain ⟨ad2, rfl, hc⟩ := HRD.out t v (by rw [hv]; exact List.getElem?_eq_getElem htl)
      have hcell := cell_on hbel hc
      have hvb := HLZ.out v (by rw [hv]; exact List.getElem_mem htl)
      have hnext : (L.reverse.take (j + 1)).map (Value.int .i64) = (L.reverse.take j).map (Value.int .i64) ++ [.int .i64 v] := by
        have hk1 : j < L.reverse.length := by have := HLEN.out; simp; omega
        rw [List.take_succ_eq_append_getElem hk1, List.map_append]
        congr 2
        have key : L.length - 1 - j = t := by have := HLEN.out; omega
        simp [List.getElem_reverse, key, hv]
      have HN := Lib.hid hnext
      have HT := Lib.hid ht
      have htm : t < m := by omega
      have hz := hbel.size
      clear hnext ht hv hc
      rw [e]
      clear e
      go_wp2_with (at_builtin; go_must (refine wpList_append_own _ rfl _ _ 44 rfl w2.heap.size 2 i0 (.int .i64 0) 1 8 i64s_u hi hz0 hz1 hz2 rfl (by decide) _ _ _ rfl (hown.alloc _) ⟨wr.heap.size, 0, none⟩ 1 1 [.int .i64 v] rfl rfl (cell_one_new _ _ _) (by intro x hx; simp at hx; subst hx; rfl) (by unfold maxLen; omega) (by omega) (by simp; omega) ?_); intro v' w3 hown3 hgrow3 _)
      go_roundw
      case rel =>
        have h3 := HT.out
        refine ⟨j + 1, by omega, by go_num, by rw [HN.out]; exact hown3, ?_⟩
        exact (hbel.alloc hz _).grown hgrow3 (by simp; omega) (fun x hx => own_ge hown x hx)
      case measure => first | (simp [intOf]; done) | (simp [intOf]; omega)
    · have e : j = m := by omega
      subst e
      rw [List.take_of_length_le (by simp; have := HLEN.out; omega)] at hown
      obtain ⟨Ab, capb, rfl, hrdb, hcapb, _, _⟩ := own_rd hown
      have hrd4 := RdI.below HRD.out (hbel.mono (Nat.le_refl _))
      have kr0 := cell_on hbel k20
      have kr1 := cell_on hbel k21
      have kr2 := cell_on hbel k22
      have HBR := Lib.hid (below_call HB2.out hbel (Nat.le_refl _))
      have hrev := sum_rev L
      have hcut := sum_cut L K
      clear hown hbel k20 k21 k22
      go_wp2_with fail
      (with_reducible refine (sum_any A2 j cap2 L _ hrd4 HLEN.out (by omega) HLZ.out).mono ?_)
      rintro e w5 ⟨rfl, hb5⟩
      go_wp2_with fail
      (with_reducible refine (sum_any Ab j capb L.reverse _ (RdI.below hrdb hb5) (by simp; exact HLEN.out) (by omega) (in64_rev HLZ.out)).mono ?_)
      rintro e w6 ⟨rfl, hb6⟩
      rw [hrev]
      go_wp2_with fail
      have hrd6 := RdI.below (RdI.below hrd4 hb5) hb6
      (with_reducible refine (sum_any A2 K cap2 (L.take K) _ (hrd6.take K) (by simp; have := HLEN.out; omega) (by omega) (in64_take HLZ.out K)).mono ?_)
      rintro e w7 ⟨rfl, hb7⟩
      have hrd7 := RdI.below hrd6 hb7
      have k70 := cell_on hb7 (cell_on hb6 (cell_on hb5 kr0))
      have k71 := cell_on hb7 (cell_on hb6 (cell_on hb5 kr1))
      have k72 := cell_on hb7 (cell_on hb6 (cell_on hb5 kr2))
      have HB7 := Lib.hid (below_call (below_call (below_call HBR.out hb5 (Nat.le_refl _)) hb6 (Nat.le_refl _)) hb7 (Nat.le_refl _))
      have HD := Lib.hid (RdI.drop hrd7 K cap2 (by have := HLEN.out; omega) (by have := HLEN.out; omega))
      have HLD : Hid ((L.drop K).length = j - K) := by simp only [Hid]; simp; have := HLEN.out; omega
      have hps := prod_small x0 x1 x2 x00 x01 x10 x11 x20 x21
      have hps1 := hps.1
      have hps2 := hps.2
      have hcomm : x1 * x0 = x0 * x1 := Int.mul_comm _ _
      have hpq : fit64 (L.take K).sum = true → fit64 (L.drop K).sum = true → f64 (L.take K).sum + f64 (L.drop K).sum = L.sum := fun h1 h2 => by rw [three _ _ h1 h2]; exact hcut
      have HC := Lib.hid hcut
      clear hps hrd6 hrd7 hrd4 hrdb kr0 kr1 kr2 hb5 hb6 hb7 hcut
      cases hP : fit64 (L.take K).sum
      all_goals cases hQ : fit64 (L.drop K).sum
      all_goals go_wp2_with fail
      all_goals first
        | ((with_reducible refine (sum_any A2 (j - K) 0 (L.drop K) _ (by have h := HD.out; rw [if_pos (by assumption)] at h; exact h) HLD.out (by omega) (in64_drop HLZ.out K)).mono ?_))
        | ((with_reducible refine (sum_any (Option.map (fun x => x.add K) A2) (j - K) (cap2 - K) (L.drop K) _ (by have h := HD.out; rw [if_neg (by assumption)] at h; exact h) HLD.out (by omega) (in64_drop HLZ.out K)).mono ?_))
      all_goals
        rintro e w8 ⟨rfl, hb8⟩
        have k80 := cell_on hb8 k70
        have k81 := cell_on hb8 k71
        have k82 := cell_on hb8 k72
        have hz8 := cell_lt k80
        have HB8 := Lib.hid (below_call HB7.out hb8 (Nat.le_refl _))
        clear k70 k71 k72 hb8
        go_wp2_with (first
          | (go_at_call 29; ((with_reducible refine (plus_any _ _ _ (f64_bd _).1 (f64_bd _).2 (f64_bd _).1 (f64_bd _).2).mono ?_)); rintro e w' ⟨rfl, hb⟩; obtain ⟨bs, d, rfl⟩ := below_grow hb; clear hb)
          | (go_at_call 18; ((with_reducible refine (times_any _ _ _ (by omega) (by omega) (by omega) (by omega)).mono ?_)); rintro e w' ⟨rfl, hb⟩; obtain ⟨bs, d, rfl⟩ := below_grow hb; clear hb)
          | (go_at_call 12; ((with_reducible refine (add_any _ _ _ _ _ (fh_bd _).1 (fh_bd _).2 (fl_bd _).1 (fl_bd _).2 (fh_bd _).1 (fh_bd _).2 (fl_bd _).1 (fl_bd _).2).mono ?_)); rintro e w' ⟨rfl, hb⟩; obtain ⟨bs, d, rfl⟩ := below_grow hb; clear hb))
        go_ret
        refine ⟨rfl, ?_⟩
        repeat' (first | (with_reducible exact HB8.out) | (with_reducible exact Below.refl _ _) | (with_reducible refine below_over ?_ _ _) | (with_reducible refine Lw.below_alloc ?_ _) | (with_reducible refine Below.drew ?_) | (with_reducible refine below_drewN ?_ _))
set_option maxRecDepth 100000 in
set_option maxHeartbeats 4000000 in
theorem split_nil (aa x0 x1 x2 : Int) (w : World)
    (aa0 : -9223372036854775808 ≤ aa) (aa1 : aa ≤ 9223372036854775807) (x00 : -2147483648 ≤ x0) (x01 : x0 ≤ 2147483647) (x10 : -2147483648 ≤ x1) (x11 : x1 ≤ 2147483647) (x20 : -2147483648 ≤ x2) (x21 : x2 ≤ 2147483647) :
    Calls Try.prog 10 #[.slice none 0 0, .int .i64 aa, .agg #[.int .i32 x0, .int .i32 x1, .int .i32 x2]] w fun e w' => e = .returned (.bool true) ∧ Below w.heap.size w w' := by
  obtain ⟨i0, hi, hz0, hz1, hz2⟩ := info_parts i64_info
  have ha := and16i aa
  have ha0 : 0 ≤ aa % 65536 := by omega
  have ha1 : aa % 65536 % 1 = 0 := by omega
  have e1 : f64 0 = 0 := by decide
  have e2 : fit64 0 = true := by decide
  have hps := prod_small x0 x1 x2 x00 x01 x10 x11 x20 x21
  have hps1 := hps.1
  have hps2 := hps.2
  have hcomm : x1 * x0 = x0 * x1 := Int.mul_comm _ _
  clear hps
  go_enter Try.func10, Try.ntmps10
  go_wp2_with (first
    | (go_at_call 11; (with_reducible refine (shown_any _).mono ?_); rintro e wS ⟨rfl, hbS⟩)
    | (at_builtin; go_must (refine wpList_append_own_none rfl _ _ 44 rfl w.heap.size 2 i0 1 i64s_u hi _ 0 [] rfl (own_empty wS _ _ _ (by have := hbS.size; simp at this; omega)) rfl ?_)))
  obtain ⟨bs, d, rfl⟩ := below_grow hbS
  refine wp_loop_rounds 1 ?_
  rw [rounds_succ]
  go_wp2_with (first
    | (go_at_call 27; (with_reducible refine (sum_any _ 0 0 [] _ (rd_nil _ _) rfl (by omega) in64_nil).mono ?_); rintro e w' ⟨rfl, hb⟩; obtain ⟨bs, d, rfl⟩ := below_grow hb; clear hb)
    | (go_at_call 29; ((with_reducible refine (plus_any _ _ _ (by decide) (by decide) (by decide) (by decide)).mono ?_)); rintro e w' ⟨rfl, hb⟩; obtain ⟨bs, d, rfl⟩ := below_grow hb; clear hb)
    | (go_at_call 18; ((with_reducible refine (times_any _ _ _ (by omega) (by omega) (by omega) (by omega)).mono ?_)); rintro e w' ⟨rfl, hb⟩; obtain ⟨bs, d, rfl⟩ := below_grow hb; clear hb)
    | (go_at_call 12; ((with_reducible refine (add_any _ _ _ _ _ (fh_bd _).1 (fh_bd _).2 (fl_bd _).1 (fl_bd _).2 (fh_bd _).1 (fh_bd _).2 (fl_bd _).1 (fl_bd _).2).mono ?_)); rintro e w' ⟨rfl, hb⟩; obtain ⟨bs, d, rfl⟩ := below_grow hb; clear hb))
  go_ret
  refine ⟨rfl, ?_⟩
  repeat' (first | (with_reducible exact Below.refl _ _) | (with_reducible refine below_over ?_ _ _) | (with_reducible refine Lw.below_alloc ?_ _) | (with_reducible refine Below.drew ?_) | (with_reducible refine below_drewN ?_ _))
theorem arr3_u : Try.prog.underlying 51 = some (.array 3 21) := by kernel_rfl
theorem arr3_c : Try.prog.cellsOf 51 = 3 := by kernel_rfl
theorem i32_c : Try.prog.cellsOf 21 = 1 := by kernel_rfl
theorem i32_u : Try.prog.underlying 21 = some (.int .i32) := by kernel_rfl
theorem wf_i32 {x : Int} (h : (Lit.int .i32 x).wf = true) : -2147483648 ≤ x ∧ x ≤ 2147483647 := by
  have := (Lit.wf_int_iff .i32 x).1 h
  simpa [IntKind.min, IntKind.max, IntKind.bits, IntKind.signed] using this
theorem open_arr3 {H : Type} {enc : TypeId × Value → H} {W : World} {v : Value} {d : DataW H} {p : List MemPlace} {base : Nat} (hv : Value.okWide Try.prog W .any base 51 v)
    (h : DataW.Trod enc Try.prog W 0 (fun _ => true) true 51 v d p) :
    ∃ a b c : Int, v = .agg #[.int .i32 a, .int .i32 b, .int .i32 c] ∧ (-2147483648 ≤ a ∧ a ≤ 2147483647) ∧ (-2147483648 ≤ b ∧ b ≤ 2147483647) ∧ (-2147483648 ≤ c ∧ c ≤ 2147483647) := by
  have hcs : ∃ cs : Array Value, v = .agg cs ∧ cs.size = Try.prog.cellsOf 51 := by
    simp only [Value.okWide, arr3_u] at hv
    obtain ⟨cs, h1, h2, _⟩ := hv
    exact ⟨cs, h1, h2⟩
  obtain ⟨cs, rfl, hsz⟩ := hcs
  obtain ⟨c0, c1, c2, rfl⟩ := Go.Joins.array3 (hsz.trans arr3_c)
  obtain ⟨fuel, hf⟩ := h
  obtain ⟨xs, m, _, _, _, hlen, hg⟩ := DataW.trod_array arr3_u hf
  have g0 := hg 0 (by omega)
  have g1 := hg 1 (by omega)
  have g2 := hg 2 (by omega)
  rw [i32_c] at g0 g1 g2
  match xs, hlen with
  | [y0, y1, y2], _ =>
    simp [Value.cells] at g0 g1 g2
    obtain ⟨a, ea, _, wa⟩ := DataW.trod_int i32_u g0
    obtain ⟨b, eb, _, wb⟩ := DataW.trod_int i32_u g1
    obtain ⟨c, ec, _, wc⟩ := DataW.trod_int i32_u g2
    simp at ea eb ec
    subst ea eb ec
    exact ⟨a, b, c, rfl, wf_i32 wa, wf_i32 wb, wf_i32 wc⟩
theorem split_any (A : Option Addr) (n cap : Nat) (zs : List Int) (aa x0 x1 x2 : Int) (w : World) (hA : A = none → n = 0 ∧ cap = 0) (hn : n ≤ cap) (hcap : cap ≤ maxLen) (hr : RdI w A zs) (hl : zs.length = n) (hz : In64 zs)
    (aa0 : -9223372036854775808 ≤ aa) (aa1 : aa ≤ 9223372036854775807) (h0 : -2147483648 ≤ x0 ∧ x0 ≤ 2147483647) (h1 : -2147483648 ≤ x1 ∧ x1 ≤ 2147483647) (h2 : -2147483648 ≤ x2 ∧ x2 ≤ 2147483647) :
    Calls Try.prog 10 #[.slice A n cap, .int .i64 aa, .agg #[.int .i32 x0, .int .i32 x1, .int .i32 x2]] w fun e w' => e = .returned (.bool true) ∧ Below w.heap.size w w' := by
  cases A with
  | none => obtain ⟨rfl, rfl⟩ := hA rfl; exact split_nil aa x0 x1 x2 w aa0 aa1 h0.1 h0.2 h1.1 h1.2 h2.1 h2.2
  | some ad => exact split_some ad n cap zs aa x0 x1 x2 w hn hcap hr hl hz aa0 aa1 h0.1 h0.2 h1.1 h1.2 h2.1 h2.2
theorem open_list {H : Type} {enc : TypeId × Value → H} {W : World} {v : Value} {d : DataW H} {p : List MemPlace} {base : Nat} (hv : Value.okWide Try.prog W .any base 44 v)
    (h : DataW.Trod enc Try.prog W 0 (fun _ => true) true 44 v d p) :
    ∃ (A : Option Addr) (n cap : Nat) (zs : List Int), v = .slice A n cap ∧ (A = none → n = 0 ∧ cap = 0) ∧ n ≤ cap ∧ cap ≤ maxLen ∧ RdI W A zs ∧ zs.length = n ∧ In64 zs := by
  obtain ⟨a0, len, cap, rfl⟩ := Go.WideShapes.okWide_slice Try.underlying44 hv
  obtain ⟨fuel, hf⟩ := h
  rcases Go.ChangeShapes.open_ints Try.underlying44 Try.underlying2 i64_c hf with ⟨hcs, _⟩ | ⟨a, len', cap', zs, hcs, _, hl, hm, hz, _, hcell, hwz⟩
  · simp [Value.cells] at hcs
    obtain ⟨rfl, rfl, rfl⟩ := hcs
    exact ⟨none, 0, 0, [], rfl, fun _ => ⟨rfl, rfl⟩, Nat.le_refl _, by simp, rd_nil _ _, rfl, in64_nil⟩
  · simp [Value.cells] at hcs
    obtain ⟨rfl, rfl, rfl⟩ := hcs
    have hz2 : zs.length = cap := by simpa using hz
    refine ⟨some a, len, cap, zs.take len, rfl, (fun h => by cases h), hl, hm, ?_, by simp; omega, ?_⟩
    · intro k v hk
      rw [List.getElem?_take] at hk
      split at hk
      · refine ⟨a, rfl, ?_⟩
        rw [hcell k (by omega)]
        simp [hk]
      · cases hk
    · intro v hv
      exact wf_i64 (hwz v (List.mem_of_mem_take hv))
namespace wideSplit
open Go.ChangeShapes Go.WideShapes Go.ChangeAt Go.Joins
set_option maxRecDepth 100000 in
theorem lifted (os : Os) (started : os.Started) (H : Type) (enc : TypeId × Value → H) :
    ReturnsInHanded {} Try.checked os 10 .any (Rows.wideSplitSpec.pre6 enc Try.prog Try.f10 Rows.wideSplitRow.domain false) (Rows.wideSplitSpec.post enc Try.prog Try.f10 false true false false) := by
  refine Lw.lifted (C := Try.checked) (B := 4) (by kernel_rfl) os started (by kernel_rfl) Try.func10
    (ChangeSpec.witness6 (enc := enc) (C := Try.checked) false ⟨#[], #[.slice none 0 0, .int .i64 0, .agg #[.int .i32 0, .int .i32 0, .int .i32 0]], []⟩ 8 (by kernel_rfl) (by kernel_rfl) (by kernel_rfl) (by kernel_rfl)) rfl Try.underlying4 (by kernel_rfl) (by kernel_rfl) (by kernel_rfl) ?_ ?_
  · intro ds h
    rw [Try.params10] at h
    match ds, h with
    | [_, _, _], _ => rfl
  · intro W base args ds p hval hA
    rw [Try.params10] at hA hval
    obtain ⟨v0, vs0, d0, ds0, p0, q0, hargs, rfl, rfl, h0, r0⟩ := trodAll_cons hA
    obtain ⟨v1, vs1, d1, ds1, p1, q1, rfl, rfl, rfl, h1, r1⟩ := trodAll_cons r0
    obtain ⟨v2, vs2, d2, ds2, p2, q2, rfl, rfl, rfl, h2, r2⟩ := trodAll_cons r1
    obtain ⟨rfl, rfl, rfl⟩ := trodAll_nil r2
    obtain rfl : args = #[v0, v1, v2] := by cases args; simp_all
    exact by
      obtain ⟨A, n, cap, zs, rfl, hA2, hn, hcap, hr, hl, hz⟩ := open_list (hval 0 44 v0 rfl rfl) h0
      obtain ⟨a1, rfl, rfl, rfl, w1⟩ := open_int Try.underlying3 (hval 1 3 v1 rfl rfl) h1
      have b1 := wf_i64 w1
      obtain ⟨x0, x1, x2, rfl, g0, g1, g2⟩ := open_arr3 (hval 2 51 v2 rfl rfl) h2
      exact split_any A n cap zs a1 x0 x1 x2 W hA2 hn hcap hr hl hz b1.1 b1.2 g0 g1 g2
theorem over : Rows.wideSplitRow.holds Try.pinned (OpenSpec.ofChange Rows.wideSplitSpec) :=
  OpenClaim.holds_of_wide 10 Try.f10 rfl rfl rfl rfl rfl rfl rfl ⟨rfl, rfl, rfl, rfl, rfl⟩ rfl rfl rfl rfl rfl (by kernel_rfl) Try.func10 (by kernel_rfl)
    (of_decide_eq_true (by kernel_rfl)) (by unfold Func.isWrapper; first | (rw [if_pos (by decide +kernel)]; kernel_rfl) | (rw [if_neg (by decide +kernel)]; exact ⟨rfl, rfl⟩))
    (fun os started H enc _ => lifted os started H enc)
theorem proved : Rows.WideSplitSaid :=
  over
#print axioms proved
end wideSplit
end Go.Proofs.Ytlnhfcfdjaecbaa.Wid
