/- Texts that statements lean on, put together: SmrPrt, SmrHis, SmrTopA, SmrTop, StkFed, HvyShown, SmrOpen, SmrShown. -/
import Derived.Test.YtkflggojiiebeaaGreatVai
import Derived.Deep.OwnRows
namespace Go.Proofs.YtkflggojiiebeaaGreat.Smr
open Go Go.RowKit Lw Grd Lin Con Shp Sk Exa Lev Stk Pcs Spn Qnt Hvy
set_option linter.unusedVariables false
set_option linter.unusedSimpArgs false
theorem ky_info : (Tryz.prog.info? 155).map (fun i => (i.zero, i.size, i.bytes)) = some (some (.agg #[.int .u64 0, .int .u64 0]), 2, 16) := by kernel_rfl
theorem kys_u : Tryz.prog.underlying 150 = some (.slice 155) := by kernel_rfl
theorem one_ky (a b : Int) : ∀ u ∈ ([.int .u64 a, .int .u64 b] : List Value), u.oneCell' = true := by
  intro u hu
  simp at hu
  rcases hu with rfl | rfl <;> rfl
theorem parts_no {K : Int} {cs : List Int} {x E : Int} {L : List (Int × Int)} (h : cutC K cs = x) (hx : x ≠ 0) (hE : cutC K cs = E) (hL : (if cutC K cs = 0 then spansQ K cs else []) = L) : E = x ∧ L = [] :=
  ⟨hE.symm.trans h, by rw [← hL, h, if_neg hx]⟩
theorem parts_yes {K : Int} {cs : List Int} {E : Int} {L : List (Int × Int)} (h : cutC K cs = 0) (hE : cutC K cs = E) (hL : (if cutC K cs = 0 then spansQ K cs else []) = L) : E = 0 ∧ L = spansQ K cs :=
  ⟨hE.symm.trans h, by rw [← hL, h, if_pos rfl]⟩
theorem all_enc (l : List (Int × Int)) (q : Int × Int) : (l ++ [q]).flatMap encS = l.flatMap encS ++ [.int .u64 q.1, .int .u64 q.2] := flat_snoc encS l q
set_option maxRecDepth 100000 in
set_option maxHeartbeats 4000000 in
theorem rise_any (A : Option Addr) (n cap : Nat) (cs : List Int) (w : World) (hA : A = none → n = 0 ∧ cap = 0) (hrd : Rd .u64 w A cs) (hl : cs.length = n) (hz : ∀ v ∈ cs, 0 ≤ v ∧ v ≤ 18446744073709551615) (hn : n ≤ 4096) :
    Calls Tryz.prog 103 #[.slice A n cap] w fun e w' => e = .returned (.bool (riseB cs)) ∧ Below w.heap.size w w' := by
  have HRD := Lib.hid hrd
  have HL := Lib.hid hl
  clear hrd hl hA
  have HN := Lib.hid hn
  go_enter Tryz.func103, Tryz.ntmps103
  go_wp2
  go_loopw [7] (fun iv wr => ∃ (t : Nat), t ≤ n ∧ iv = .int .i64 (t : Int) ∧ (∀ (i : Nat) (a b : Int), i + 1 < t → cs[i]? = some a → cs[i + 1]? = some b → a < b) ∧ Below w.heap.size w wr) (fun iv _ => n - (intOf iv).toNat)
  case atStart => exact ⟨0, Nat.zero_le _, rfl, fun i a b h => by omega, Below.refl _ _⟩
  case round =>
    obtain ⟨t, ht, rfl, hok, hv⟩ := hrel
    have HOK := Lib.hid hok
    have HVr := Lib.hid hv
    clear hok hv
    by_cases hlt : t < n
    · have lt1 : (t : Int) < (n : Int) := by omega
      obtain ⟨x, hx⟩ : ∃ x, cs[t]? = some x := ⟨_, List.getElem?_eq_getElem (by rw [HL.out]; exact hlt)⟩
      have HX := Lib.hid hx
      obtain ⟨ad, rfl, hcz⟩ := HRD.out _ _ hx
      have d1 := cell_up hcz HVr.out
      clear hx hcz
      have lt0 : (0 : Int) ≤ (t : Int) := by omega
      by_cases ht0 : 0 < t
      · obtain ⟨j, hj⟩ : ∃ j, t = j + 1 := ⟨t - 1, by omega⟩
        obtain ⟨y, hy⟩ : ∃ y, cs[j]? = some y := ⟨_, List.getElem?_eq_getElem (by rw [HL.out]; omega)⟩
        have d2 := cell_up (HRD.out.at hy) HVr.out
        have HY := Lib.hid hy
        have p0 : decide (0 < t) = true := decide_eq_true ht0
        have p2 : (0 : Int) ≤ (j : Int) := by omega
        have p3 : (j : Int) < (n : Int) := by omega
        have p4 : wrap64 ((t : Int) - 1) = (j : Int) := (IntWalk.wrap64_in _ ⟨by omega, by omega⟩).trans (by omega)
        have p5 : IntKind.i64.wrap ((t : Int) - 1) = (j : Int) := (IntWalk.i64_in _ ⟨by omega, by omega⟩).trans (by omega)
        have HJ := Lib.hid hj
        clear hy hj
        by_cases hle : x ≤ y
        · have HRN := Lib.hid (rise_no HY.out (by rw [← HJ.out]; exact HX.out) hle)
          have g1 : decide (x ≤ y) = true := decide_eq_true hle
          go_wp2
          go_ret
          exact ⟨by rw [HRN.out]; rfl, HVr.out⟩
        · have g1 : decide (x ≤ y) = false := decide_eq_false hle
          have HLT : Hid (y < x) := Lib.hid (by omega)
          go_wp2
          go_roundw
          case rel => exact ⟨t + 1, by omega, by go_num, fun i a b h h1 h2 => by
              by_cases hi : i = j
              · subst hi
                rw [HY.out] at h1
                rw [← HJ.out, HX.out] at h2
                cases h1; cases h2
                exact HLT.out
              · exact HOK.out i a b (by have := HJ.out; omega) h1 h2, by have h5 := HVr.out; exact (by repeat' (first | (with_reducible first | exact Below.refl _ _ | assumption | refine below_over ?_ _ _ | refine Lw.below_alloc ?_ _ | refine Below.drew ?_ | refine below_drewN ?_ _ | refine Below.setCell ?_ ?_ _) | go_size))⟩
          case measure => simp [intOf]; omega
      · have p0 : decide (0 < t) = false := decide_eq_false ht0
        have HT0 := Lib.hid ht0
        go_wp2
        go_roundw
        case rel => exact ⟨t + 1, by omega, by go_num, fun i a b h => by have := HT0.out; omega, by have h5 := HVr.out; exact (by repeat' (first | (with_reducible first | exact Below.refl _ _ | assumption | refine below_over ?_ _ _ | refine Lw.below_alloc ?_ _ | refine Below.drew ?_ | refine below_drewN ?_ _ | refine Below.setCell ?_ ?_ _) | go_size))⟩
        case measure => simp [intOf]; omega
    · have lt1 : ¬ (t : Int) < (n : Int) := by omega
      have HRY := Lib.hid (rise_yes (l := cs) (fun i a b h1 h2 => HOK.out i a b (by have := (List.getElem?_eq_some_iff.1 h2).1; rw [HL.out] at this; omega) h1 h2))
      go_wp2
      go_ret
      exact ⟨by rw [HRY.out]; rfl, HVr.out⟩
set_option maxRecDepth 100000 in
set_option maxHeartbeats 4000000 in
theorem parts_any (K : Int) (A : Option Addr) (n cap : Nat) (cs : List Int) (w : World) (hA : A = none → n = 0 ∧ cap = 0) (hrd : Rd .u64 w A cs) (hl : cs.length = n) (hz : ∀ v ∈ cs, 0 ≤ v ∧ v ≤ 18446744073709551615) (hn : n ≤ 4096) (hK0 : 1 ≤ K) (hK1 : K ≤ 576460752303423488) :
    Calls Tryz.prog 68 #[.slice A n cap, .int .u64 K] w fun e w' => ∃ (A2 : Option Addr) (n2 cap2 : Nat), e = .returned (.tuple #[.slice A2 n2 cap2, .int .i64 (cutC K cs)]) ∧ w'.ownsRow w.heap.size 155 2 (.slice A2 n2 cap2) n2 ((if cutC K cs = 0 then spansQ K cs else []).flatMap encS) ∧ (if cutC K cs = 0 then spansQ K cs else []).length = n2 ∧ Below w.heap.size w w' := by
  have CR := Lib.hid (rise_any A n cap cs w hA hrd hl hz hn)
  have HRD := Lib.hid hrd
  have HL := Lib.hid hl
  have HN := Lib.hid hn
  have HZ := Lib.hid hz
  have HKB := Lib.hid (And.intro hK0 hK1)
  obtain ⟨i0, hi_, hz0, hz1, hz2⟩ := info_parts ky_info
  have wK : IntKind.u64.wrap (K - 1) = K - 1 := by rw [IntKind.wrap_u64]; omega
  clear hrd hl hA hz hn hK0 hK1
  obtain ⟨E9, hE9⟩ : ∃ v, cutC K cs = v := ⟨_, rfl⟩
  obtain ⟨L9, hL9⟩ : ∃ v, (if cutC K cs = 0 then spansQ K cs else []) = v := ⟨_, rfl⟩
  rw [hL9, hE9]
  have HE9 := Lib.hid hE9
  have HL9 := Lib.hid hL9
  clear hE9 hL9
  cases hr : riseB cs with
  | false =>
    have HC := Lib.hid (cut_arg (K := K) hr)
    rw [hr] at CR
    go_enter Tryz.func68, Tryz.ntmps68
    go_wp2_with (go_at_call 103; (with_reducible refine (CR.out).mono ?_); rintro e w1 ⟨rfl, hb⟩; have HB1 := Lib.hid hb; clear hb)
    refine bodyPost_ret (v := .tuple #[.slice none 0 0, .int .i64 1]) (by simp [results, Tryz.results68, go_sem]) rfl ?_
    obtain ⟨e9, l9⟩ := parts_no HC.out (by decide) HE9.out HL9.out
    rw [e9, l9]
    exact ⟨none, 0, 0, rfl, World.ownsRow_nil _ _ _ _, rfl, HB1.out⟩
  | true =>
    rw [hr] at CR
    have HR1 := Lib.hid hr
    clear hr
    go_enter Tryz.func68, Tryz.ntmps68
    go_wp2_with (go_at_call 103; (with_reducible refine (CR.out).mono ?_); rintro e w1 ⟨rfl, hb⟩; have HB1 := Lib.hid hb; clear hb)
    go_loopw [6, 7, 15] (fun av fv iv wr => ∃ (t : Nat), t ≤ n ∧ iv = .int .i64 (t : Int) ∧ fv = .int .u64 (loQ cs t) ∧ (∀ x ∈ cs.take t, 1 ≤ x ∧ x < K) ∧ Have w wr [ownK w.heap.size 155 2 av t (((spansQ K cs).take t).flatMap encS)]) (fun _ _ iv _ => n - (intOf iv).toNat)
    case atStart => exact ⟨0, Nat.zero_le _, rfl, by rw [loQ_zero], fun x hx => by simp at hx, ((Have.nil w).up HB1.out).push (ownK w.heap.size 155 2 (.slice none 0 0) 0 []) (Below.refl _ _) (World.ownsRow_nil w1 _ _ _) (fun k hk => by cases hk)⟩
    case round =>
      obtain ⟨t, ht, rfl, rfl, hok, hv⟩ := hrel
      have HVr := Lib.hid hv
      have HOK := Lib.hid hok
      clear hv hok
      obtain ⟨FV, hFV⟩ : ∃ v, loQ cs t = v := ⟨_, rfl⟩
      rw [hFV]
      have HFV := Lib.hid hFV
      clear hFV
      by_cases hlt : t < n
      · have lt0 : (0 : Int) ≤ (t : Int) := by omega
        have lt1 : (t : Int) < (n : Int) := by omega
        obtain ⟨x, hx⟩ : ∃ x, cs[t]? = some x := ⟨_, List.getElem?_eq_getElem (by rw [HL.out]; exact hlt)⟩
        have HX := Lib.hid hx
        have hzx := HZ.out x (List.mem_of_getElem? hx)
        obtain ⟨ad, rfl, hcz⟩ := HRD.out _ _ hx
        have d1 := cell_up hcz HVr.out.below
        clear hx hcz
        by_cases hbad : x = 0 ∨ K ≤ x
        · have HIN := Lib.hid (inn_no (K := K) (List.mem_of_getElem? HX.out) (by omega))
          have HC := Lib.hid (cut_key HR1.out HIN.out)
          rcases hbad with rfl | hbad
          · go_wp2
            refine bodyPost_ret (v := .tuple #[.slice none 0 0, .int .i64 2]) (by simp [results, Tryz.results68, go_sem]) rfl ?_
            obtain ⟨e9, l9⟩ := parts_no HC.out (by decide) HE9.out HL9.out
            rw [e9, l9]
            exact ⟨none, 0, 0, rfl, World.ownsRow_nil _ _ _ _, rfl, HVr.out.below⟩
          · have e1 : ((x : Int) == 0) = false := beq_eq_false_iff_ne.2 (by have := HKB.out.1; omega)
            have e2 : decide (K ≤ x) = true := decide_eq_true hbad
            go_wp2
            refine bodyPost_ret (v := .tuple #[.slice none 0 0, .int .i64 2]) (by simp [results, Tryz.results68, go_sem]) rfl ?_
            obtain ⟨e9, l9⟩ := parts_no HC.out (by decide) HE9.out HL9.out
            rw [e9, l9]
            exact ⟨none, 0, 0, rfl, World.ownsRow_nil _ _ _ _, rfl, HVr.out.below⟩
        · have e1 : ((x : Int) == 0) = false := beq_eq_false_iff_ne.2 (by omega)
          have e3 : ¬ K ≤ x := by omega
          have e2 : decide (K ≤ x) = false := decide_eq_false e3
          have wx : IntKind.u64.wrap (x - 1) = x - 1 := by rw [IntKind.wrap_u64]; omega
          have HNX := Lib.hid (all_next (p := fun x => 1 ≤ x ∧ x < K) HX.out HOK.out (by omega))
          have HLN := Lib.hid (loQ_next HX.out)
          have HTK : Hid (((spansQ K cs).take (t + 1)).flatMap encS = ((spansQ K cs).take t).flatMap encS ++ [.int .u64 FV, .int .u64 (x - 1)]) := Lib.hid (by rw [take_next (spansQ_at (K := K) (l := cs) (i := t) (by rw [HL.out]; omega)), all_enc, hiQ_at HX.out, HFV.out])
          obtain ⟨XM, hXM⟩ : ∃ v, x - 1 = v := ⟨_, rfl⟩
          rw [hXM] at wx HTK
          have n4 := HN.out
          clear hbad hzx
          go_wp2_with (at_builtin; go_must (refine wpList_append_lies _ rfl _ _ 150 rfl w.heap.size 155 i0 (.agg #[.int .u64 0, .int .u64 0]) 2 16 kys_u hi_ hz0 hz1 hz2 rfl (by decide) _ _ _ rfl ((okI HVr.out.i0).alloc _) ⟨_, 0, none⟩ 1 1 [.int .u64 FV, .int .u64 XM] rfl rfl (World.news_of_block (heap_alloc_new wr _)) (one_ky _ _) (by decide) (by unfold maxLen; omega) (by omega) (by simp; have := HVr.out.below.size; omega) _ rfl ?_); intro g7 cap7 w7 hown7 hgrow7 hat7 hlt7)
          have HVa := Lib.hid (HVr.out.up (Lw.below_alloc (Below.refl _ wr) (.cells #[.int .u64 FV, .int .u64 XM] 155)))
          have HV7 := Lib.hid (turn0K HVa.out hown7 hgrow7 hat7)
          go_roundw
          case rel => exact ⟨t + 1, by omega, by go_num, by rw [HLN.out], HNX.out, by rw [HTK.out]; exact HV7.out.up (by repeat' (first | (with_reducible first | exact Below.refl _ _ | assumption | refine below_over ?_ _ _ | refine Lw.below_alloc ?_ _ | refine Below.drew ?_ | refine below_drewN ?_ _ | refine Below.setCell ?_ ?_ _) | go_size))⟩
          case measure => simp [intOf]; omega
      · obtain rfl : t = n := by omega
        have lt1 : ¬ (t : Int) < (t : Int) := by omega
        have et : cs.take t = cs := List.take_of_length_le (by rw [HL.out]; omega)
        rw [et] at HOK
        have HC := Lib.hid (cut_ok HR1.out (inn_yes HOK.out))
        have HTK : Hid ((spansQ K cs).flatMap encS = ((spansQ K cs).take t).flatMap encS ++ [.int .u64 FV, .int .u64 (K - 1)]) := Lib.hid (by
          have e := spansQ_last K cs
          rw [HL.out, HFV.out] at e
          rw [e, List.take_append_of_le_length (by rw [List.length_take, spansQ_len, HL.out]; omega), List.take_take, Nat.min_self, all_enc])
        have HSL : Hid ((spansQ K cs).length = t + 1) := Lib.hid (by rw [spansQ_len, HL.out])
        obtain ⟨KM, hKM⟩ : ∃ v, K - 1 = v := ⟨_, rfl⟩
        rw [hKM] at wK HTK
        have n4 := HN.out
        go_wp2_with (at_builtin; go_must (refine wpList_append_lies _ rfl _ _ 150 rfl w.heap.size 155 i0 (.agg #[.int .u64 0, .int .u64 0]) 2 16 kys_u hi_ hz0 hz1 hz2 rfl (by decide) _ _ _ rfl ((okI HVr.out.i0).alloc _) ⟨_, 0, none⟩ 1 1 [.int .u64 FV, .int .u64 KM] rfl rfl (World.news_of_block (heap_alloc_new wr _)) (one_ky _ _) (by decide) (by unfold maxLen; omega) (by omega) (by simp; have := HVr.out.below.size; omega) _ rfl ?_); intro g7 cap7 w7 hown7 hgrow7 hat7 hlt7)
        have HVa := Lib.hid (HVr.out.up (Lw.below_alloc (Below.refl _ wr) (.cells #[.int .u64 FV, .int .u64 KM] 155)))
        have HV7 := Lib.hid (turn0K HVa.out hown7 hgrow7 hat7)
        refine bodyPost_ret (v := .tuple #[.slice (some ⟨g7, 0, none⟩) (t + 1) cap7, .int .i64 0]) (by simp [results, Tryz.results68, go_sem]) rfl ?_
        obtain ⟨e9, l9⟩ := parts_yes HC.out HE9.out HL9.out
        rw [e9, l9, HTK.out]
        exact ⟨some ⟨g7, 0, none⟩, t + 1, cap7, rfl, okI HV7.out.i0, HSL.out, HV7.out.below⟩
end Go.Proofs.YtkflggojiiebeaaGreat.Smr

namespace Go.Proofs.YtkflggojiiebeaaGreat.Smr
open Go Go.RowKit Lw Grd Lin Con Shp Sk Exa Lev Stk Pcs Spn Qnt Hvy
set_option linter.unusedVariables false
set_option linter.unusedSimpArgs false
theorem st_one {α : Type} {K : Nat} {enc : α → List Value} (hK : ∀ q, (enc q).length = K) {w : World} {base : Nat} {e : TypeId} {A : Option Addr} {n cap : Nat} {qs : List α} (h : w.ownsRow base e K (.slice A n cap) n (qs.flatMap enc)) (hl : qs.length = n) : (stRowT K enc A n cap qs).I w := by
  obtain ⟨A2, cap2, e2, h1, -⟩ := st_own hK h hl
  injection e2 with e2a e2b e2c
  subst e2a e2c
  exact h1
theorem spans_bd {K : Int} {cs : List Int} (hK0 : 1 ≤ K) (hK1 : K ≤ 576460752303423488) (h : cutC K cs = 0) : ∀ s ∈ spansQ K cs, (0 ≤ s.1 ∧ s.1 ≤ 18446744073709551615) ∧ (0 ≤ s.2 ∧ s.2 ≤ 18446744073709551615) := by
  have h1 : riseB cs = true := by
    cases e : riseB cs with
    | true => rfl
    | false => rw [cut_arg e] at h; cases h
  have h2 : innB K cs = true := by
    cases e : innB K cs with
    | true => rfl
    | false => rw [cut_key h1 e] at h; cases h
  intro s hs
  obtain ⟨i, hi⟩ := List.getElem?_of_mem hs
  have hil := (List.getElem?_eq_some_iff.1 hi).1
  rw [spansQ_len] at hil
  rw [spansQ_at (by omega)] at hi
  have e := Option.some.inj hi
  subst e
  have h3 := span_in hK0 h2 h1 (i := i) (by omega)
  refine ⟨⟨?_, ?_⟩, ?_, ?_⟩
  · exact h3.1
  · show loQ cs i ≤ _; omega
  · show 0 ≤ hiQ K cs i; omega
  · show hiQ K cs i ≤ _; omega
set_option maxRecDepth 100000 in
set_option maxHeartbeats 4000000 in
theorem sm_histo (p : Addr) (F : Nat → Prop) (c : Cfg) (sts : List LS) (A : Option Addr) (n cap : Nat) (cs : List Int) (w : World) (h : ST w p F c sts) (hA : A = none → n = 0 ∧ cap = 0) (hrd : Rd .u64 w A cs) (hl : cs.length = n) (hz : ∀ v ∈ cs, 0 ≤ v ∧ v ≤ 18446744073709551615) (hn : n ≤ 4000) (hco : c.Ok) :
    Calls Tryz.prog 31 #[.pointer (some p), .slice A n cap] w fun e w' => ∃ (A2 : Option Addr) (n2 cap2 : Nat), e = .returned (.tuple #[.slice A2 n2 cap2, .int .i64 (hgC c (fun L i => spV c sts (L : Int) i) cs)]) ∧ w'.ownsRow w.heap.size 2 1 (.slice A2 n2 cap2) n2 ((hgL c (fun L i => spV c sts (L : Int) i) cs).map (Value.int .i64)) ∧ (hgL c (fun L i => spV c sts (L : Int) i) cs).length = n2 ∧ Below w.heap.size w w' := by
  have hmf : ∀ fn first cap w, (Instr.makeFunc fn first cap).run Tryz.prog w = .ok (.func fn first cap) w := fun _ _ _ _ => rfl
  have hkey : 1 ≤ keys c 0 := keys_pos.2 ⟨h.1, by omega, by have := h.1.1; omega⟩
  have hkb := keys_bd c 0
  have CC := Lib.hid (fun w hs => cs_config p F c sts w hs)
  have CK := Lib.hid (fun w => keys_any c 0 w hco (by omega) (by omega))
  have CPA := Lib.hid (fun w hrd => parts_any (keys c 0) A n cap cs w hA hrd hl hz (by omega) hkey (by omega))
  have HD := Lib.hid h
  have HRD := Lib.hid hrd
  have HL := Lib.hid hl
  have HN := Lib.hid hn
  have HX := Lib.hid (Lw.below_alloc (Below.refl _ w) (.cells #[.pointer (some p)] 30))
  have HNO := Lib.hid (fun hh => hg_no (c := c) (pt := (fun L i => spV c sts (L : Int) i)) (l := cs) hh)
  have HYE := Lib.hid (fun hh => hg_yes (c := c) (pt := (fun L i => spV c sts (L : Int) i)) (l := cs) hh)
  have HSB := Lib.hid (fun hh => spans_bd (cs := cs) hkey (by omega) hh)
  have HSL := Lib.hid (spansQ_len (keys c 0) cs)
  obtain ⟨K, hK⟩ : ∃ v, keys c 0 = v := ⟨_, rfl⟩
  rw [hK] at CK CPA HNO HYE HSB HSL
  obtain ⟨E, hE⟩ : ∃ v, cutC K cs = v := ⟨_, rfl⟩
  rw [hE] at CPA HNO HYE HSB
  have HB0 : Hid ((w.alloc (.cells #[.pointer (some p)] 30)).cell? ⟨w.heap.size, 0, none⟩ = some (.pointer (some p))) := Lib.hid (by simp)
  clear h hA hrd hl hz hn hco hkey hkb hK hE
  by_cases hE0 : E = 0
  · subst hE0
    rw [if_pos rfl] at CPA
    have HY := Lib.hid (HYE.out rfl)
    have CG := Lib.hid (fun A2 n2 cap2 w2 hs hb hst hn => gather_r p F c sts w.heap.size A2 n2 cap2 (spansQ K cs) w2 hs hb hst (HSB.out rfl) hn)
    rw [HY.out.1, HY.out.2]
    obtain ⟨C, hC⟩ : ∃ v, manyC (rgF c (fun L i => spV c sts (L : Int) i)) (spansQ K cs) = v := ⟨_, rfl⟩
    obtain ⟨L, hL⟩ : ∃ v, manyL (rgF c (fun L i => spV c sts (L : Int) i)) (spansQ K cs) = v := ⟨_, rfl⟩
    rw [hC, hL] at CG ⊢
    clear hC hL HNO HYE HSB HY
    go_enter Tryz.func31, Tryz.ntmps31
    go_wp2_with (first
      | (go_at_call 69; (with_reducible refine (CG.out _ _ _ _ (HD.out.up HB3.out) (cell_up HB0.out HBX.out) (strI HST.out) (by have := HN.out; have := HSL.out; have := HL.out; have := HLE.out; omega)).mono ?_); rintro e w4 ⟨A4, n4, cap4, rfl, ho4, hl4, hb⟩; have HO4 := Lib.hid ho4; have HL4 := Lib.hid hl4; have HB4 := Lib.hid (HB3.out.trans (hb.mono HB3.out.size)); clear hb ho4 hl4)
      | (go_at_call 68; (with_reducible refine (CPA.out _ (HRD.out.up HB2.out)).mono ?_); rintro e w3 ⟨A3, n3, cap3, rfl, ho3, hl3, hb⟩; have HLE := Lib.hid hl3; have HST := Lib.hid (st_one (by exact encS_len) ho3 hl3); have HB3 := Lib.hid (HB2.out.trans (hb.mono HB2.out.size)); have HBX := Lib.hid (HBY.out.trans (hb.mono HBY.out.size)); clear hb ho3 hl3)
      | (go_at_call 46; (with_reducible refine (CK.out _).mono ?_); rintro e w2 ⟨rfl, hb⟩; have HB2 := Lib.hid (HB1.out.trans (hb.mono HB1.out.size)); have HBY := Lib.hid (HBZ.out.trans (hb.mono HBZ.out.size)); clear hb)
      | (go_at_call 53; (with_reducible refine (CC.out _ (HD.out.up HX.out)).mono ?_); rintro e w1 ⟨rfl, hb⟩; have HB1 := Lib.hid (HX.out.trans (hb.mono HX.out.size)); have HBZ := Lib.hid hb; clear hb))
    refine bodyPost_ret (v := .tuple #[.slice A4 n4 cap4, .int .i64 C]) (by simp [results, Tryz.results31, go_sem]) rfl ?_
    exact ⟨A4, n4, cap4, rfl, own_base HO4.out HB3.out.size, HL4.out, HB4.out⟩
  · have hE1 : ((E : Int) == 0) = false := beq_eq_false_iff_ne.2 hE0
    have hE2 : ((E : Int) != 0) = true := by simp [hE0]
    have HNQ := Lib.hid (HNO.out hE0)
    rw [if_neg hE0] at CPA
    rw [HNQ.out.1, HNQ.out.2]
    clear HYE HSB HNO HNQ
    go_enter Tryz.func31, Tryz.ntmps31
    go_wp2_with (first
      | (go_at_call 68; (with_reducible refine (CPA.out _ (HRD.out.up HB2.out)).mono ?_); rintro e w3 ⟨A3, n3, cap3, rfl, ho3, hl3, hb⟩; have HB3 := Lib.hid (HB2.out.trans (hb.mono HB2.out.size)); clear hb ho3 hl3)
      | (go_at_call 46; (with_reducible refine (CK.out _).mono ?_); rintro e w2 ⟨rfl, hb⟩; have HB2 := Lib.hid (HB1.out.trans (hb.mono HB1.out.size)); clear hb)
      | (go_at_call 53; (with_reducible refine (CC.out _ (HD.out.up HX.out)).mono ?_); rintro e w1 ⟨rfl, hb⟩; have HB1 := Lib.hid (HX.out.trans (hb.mono HX.out.size)); clear hb))
    refine bodyPost_ret (v := .tuple #[.slice none 0 0, .int .i64 E]) (by simp [results, Tryz.results31, go_sem]) rfl ?_
    exact ⟨none, 0, 0, rfl, World.ownsRow_nil _ _ _ _, rfl, HB3.out⟩
end Go.Proofs.YtkflggojiiebeaaGreat.Smr

namespace Go.Proofs.YtkflggojiiebeaaGreat.Smr
open Go Go.RowKit Lw Grd Lin Con Shp Sk Exa Lev Stk Pcs Spn Qnt Hvy
set_option linter.unusedVariables false
set_option linter.unusedSimpArgs false
theorem encK_len (x : Nat × Int) : (encK x).length = 3 := rfl
theorem low_flat : ∀ l : List ((Nat × Nat) × Int), (l.filter lowB).flatMap encF = (keysK l).flatMap encK
  | [] => rfl
  | q :: qs => by
    have ih := low_flat qs
    unfold keysK at ih ⊢
    by_cases h : q.1.1 = 0
    · have h1 : lowB q = true := decide_eq_true h
      rw [List.filter_cons_of_pos h1, List.filter_cons_of_pos (by simpa using h), List.map_cons, List.flatMap_cons, List.flatMap_cons, ih]
      have e : encF q = encK (q.1.2, q.2) := by
        show [Value.int .i64 (q.1.1 : Int), .int .u64 (q.1.2 : Int), .int .i64 q.2] = _
        rw [h]
        rfl
      rw [e]
    · have h1 : ¬ lowB q = true := by unfold lowB; simpa using h
      rw [List.filter_cons_of_neg h1, List.filter_cons_of_neg (by simpa using h)]
      exact ih
theorem low_len (l : List ((Nat × Nat) × Int)) : (l.filter lowB).length = (keysK l).length := by
  unfold keysK
  rw [List.length_map]
  rfl
theorem flatK_list (d : List (Nat × Int)) (t : Nat) (v : Value) (h : (d.flatMap encK)[t]? = some v) : t < (Go.Sort.flatK encK 3 d.toArray).size ∧ (Go.Sort.flatK encK 3 d.toArray)[t]! = v := by
  have hl := (List.getElem?_eq_some_iff.1 h).1
  rw [flat_len encK_len] at hl
  refine ⟨by rw [Go.Sort.size_flatK]; simpa using hl, ?_⟩
  rw [Go.Sort.get_flatK _ _ _ _ (by simpa using hl)]
  have hj : t / 3 < d.length := by omega
  have e1 : d[t / 3]? = some d[t / 3] := List.getElem?_eq_getElem hj
  have e2 : (d.toArray)[t / 3]! = d[t / 3] := by simp [hj]
  rw [e2]
  have h3 : t % 3 < (encK d[t / 3]).length := by rw [encK_len]; omega
  have e4 : (encK d[t / 3])[t % 3]? = some (encK d[t / 3])[t % 3] := List.getElem?_eq_getElem h3
  have h5 := flat_get encK_len e1 e4
  rw [show t / 3 * 3 + t % 3 = t by omega, h] at h5
  rw [getElem!_pos (encK d[t / 3]) (t % 3) h3]
  exact (Option.some.inj h5).symm
theorem holds_of {w : World} {g : Nat} {cur : List ((Nat × Nat) × Int)} {rest : List Value} {d : List (Nat × Int)} (h : Body w g cur rest) (he : cur.flatMap encF = d.flatMap encK) : Go.Sort.HoldsK encK 3 w g 0 d.toArray := by
  intro j hj
  rw [Go.Sort.size_flatK] at hj
  have hj' : j < (d.flatMap encK).length := by rw [flat_len encK_len]; simpa using hj
  have e : (d.flatMap encK)[j]? = some (d.flatMap encK)[j] := List.getElem?_eq_getElem hj'
  obtain ⟨-, h2⟩ := flatK_list d j _ e
  refine ⟨?_, by rw [Nat.zero_add]; exact h.frozen j⟩
  rw [Nat.zero_add]
  show w.cell? ⟨g, j, none⟩ = some (id ((Go.Sort.flatK encK 3 d.toArray)[j]!))
  rw [h2]
  refine box_cell h ?_
  rw [List.getElem?_toArray, List.getElem?_append_left (by rw [he]; exact hj'), he]
  exact e
theorem put_kept (w : World) (g off n : Nat) (d : Array (Nat × Int)) (os : Array Obj) : Kept (fun k => k = g) w (sortWorldK encK 3 w g off n d os) := by
  unfold sortWorldK Go.Sort.putRowK Go.Sort.putRow Go.Sort.mapBlock Go.Sort.grow Go.Sort.ahead
  refine ⟨rfl, rfl, rfl, by simp, fun k hk hF => ?_⟩
  simp only
  rw [Array.getElem?_append_left (by simpa using hk), Array.getElem?_modify, if_neg (fun e => hF e.symm)]
theorem st_of_holds {w : World} {g m cap : Nat} {d : List (Nat × Int)} (h : Go.Sort.HoldsK encK 3 w g 0 d.toArray) (hl : d.length = m) (hc : m ≤ cap) (hcm : cap ≤ maxLen) (hg : g < w.heap.size) : (stRowT 3 encK (some ⟨g, 0, none⟩) m cap d).I w := by
  refine ⟨⟨(fun e => by cases e), hc, hcm, hl, fun i q hq => ⟨_, rfl, fun j v hv => ?_⟩⟩, fun a e => by injection e with e; subst e; exact hg⟩
  have h1 := flat_get encK_len hq hv
  obtain ⟨h2, h3⟩ := flatK_list d _ v h1
  have h4 := (h _ h2).1
  rw [Ord.add_at]
  rw [h3] at h4
  exact h4
theorem st_take {α : Type} {K : Nat} {enc : α → List Value} {A : Option Addr} {n cap k : Nat} {qs : List α} {w : World} (h : (stRowT K enc A n cap qs).I w) (hk : k ≤ n) : (stRowT K enc A k cap (qs.take k)).I w :=
  ⟨⟨fun e => ⟨by have := (h.1.nil e).1; omega, (h.1.nil e).2⟩, Nat.le_trans hk h.1.nc, h.1.cm, by rw [List.length_take, h.1.len]; omega, fun i q hq => by
    rw [List.getElem?_take] at hq
    split at hq
    · exact h.1.each i q hq
    · cases hq⟩, h.2⟩
theorem own_body {w : World} {base g n cap : Nat} {l : List ((Nat × Nat) × Int)} (h : w.ownsRow base 85 3 (.slice (some ⟨g, 0, none⟩) n cap) n (l.flatMap encF)) (hl : l.length = n) : ∃ rest, Body w g l rest ∧ n * 3 + rest.length = cap * 3 ∧ n ≤ cap ∧ cap ≤ maxLen ∧ base ≤ g := by
  rcases h.2 with ⟨h1, -⟩ | ⟨g2, cap2, cur, h1, h2, h3, h4, h5, h6, h7⟩
  · cases h1
  · injection h1 with e1 e2 e3
    injection e1 with e1
    injection e1 with e1
    subst e1 e3
    have e : cur.toList = l.flatMap encF ++ cur.toList.drop (n * 3) := by
      rw [← h7, List.take_append_drop]
    refine ⟨cur.toList.drop (n * 3), ?_, ?_, h4, h5, h2⟩
    · show (boxT g 85 _).I w
      rw [← e]
      exact h3
    · rw [List.length_drop, Array.length_toList, h6]
      have : n * 3 ≤ cap * 3 := Nat.mul_le_mul_right _ h4
      omega
theorem hvL_le (c : Cfg) (pt : Nat → Int → Int) (least bud : Int) : (hvL c pt least bud).length ≤ 4096 := by
  by_cases h : hvC c pt least bud = 0
  · have h1 : hvL c pt least bud = foundQ pt least c.bt.toNat (c.bt.toNat + 1) := if_pos h
    rw [h1]
    have h2 := foundQ_len pt least c.bt.toNat
    unfold hvC at h
    split at h
    · cases h
    · split at h
      · cases h
      · omega
  · have h1 : hvL c pt least bud = [] := if_neg h
    rw [h1]
    exact Nat.zero_le _
set_option maxRecDepth 100000 in
set_option maxHeartbeats 4000000 in
theorem sort_any (g cap : Nat) (L : List ((Nat × Nat) × Int)) (rest : List Value) (w : World) (h : Body w g (L.filter lowB) rest) (hlen : L.length ≤ 5000) (hc : (L.filter lowB).length ≤ cap) (hcm : cap ≤ maxLen) :
    Calls Tryz.prog 74 #[.slice (some ⟨g, 0, none⟩) (L.filter lowB).length cap, .func (.func 75) #[] #[]] w fun e w' => e = .returned (.tuple #[]) ∧ (stRowT 3 encK (some ⟨g, 0, none⟩) (L.filter lowB).length cap (sortK L)).I w' ∧ Kept (fun k => k = g) w w' := by
  have hg : g < w.heap.size := box_lt h
  have hH := holds_of h (low_flat L)
  have hsz : (keysK L).toArray.size = (L.filter lowB).length := by rw [low_len]; simp
  have hle := List.length_filter_le lowB L
  have eg : ∀ args w, (callFunc 75 args).run Tryz.prog w = .ok (.enter 75 args) w := enters_of Tryz.func75 (by kernel_rfl) rfl
  have hcon := AnyQ.slices_SortFunc_total sortL 3 Tryz.isAgg85 Tryz.sizeOf85 encK encK_len (fun x v hv => by simp [encK] at hv; rcases hv with rfl | rfl | rfl <;> rfl) cfK swoK 75 #[] g 0 cap (keysK L).toArray w eg (ahead_lays g 0 _ w) hH hg (by rw [hsz]; omega) (fun x y h1 h2 => by rw [ltOf_K] at h1 h2; exact ltK_total h1 h2)
  change Calls Tryz.prog 74 _ _ _ at hcon
  have hml : (sortK L).length = (L.filter lowB).length := by rw [sortK_len, low_len]
  rw [hsz] at hcon
  refine hcon.mono ?_
  rintro e w' ⟨rfl, n, os, rfl⟩
  have hho := holdsK_sortWorldK encK 3 w g 0 n (keysK L).toArray (sortK L).toArray os hg hH (by simp [sortK_len])
  have hkp := put_kept w g 0 n (sortK L).toArray os
  exact ⟨rfl, st_of_holds hho hml hc hcm (Nat.lt_of_lt_of_le hg hkp.size), hkp⟩
end Go.Proofs.YtkflggojiiebeaaGreat.Smr

namespace Go.Proofs.YtkflggojiiebeaaGreat.Smr
open Go Go.RowKit Lw Grd Lin Con Shp Sk Exa Lev Stk Pcs Spn Qnt Hvy
set_option linter.unusedVariables false
set_option linter.unusedSimpArgs false
theorem own_none {w : World} {base m cap : Nat} {e : TypeId} {L : List ((Nat × Nat) × Int)} (h : w.ownsRow base e 3 (.slice none m cap) m (L.flatMap encF)) (hl : L.length = m) : m = 0 ∧ cap = 0 ∧ L = [] := by
  rcases h.2 with ⟨h1, h2⟩ | ⟨g, cap2, cur, h1, -⟩
  · injection h1 with e1 e2 e3
    subst e2 e3
    exact ⟨rfl, rfl, List.eq_nil_of_length_eq_zero hl⟩
  · injection h1 with e1
    cases e1
theorem own_at {w : World} {base m cap K : Nat} {e : TypeId} {a : Addr} {xs : List Value} (h : w.ownsRow base e K (.slice (some a) m cap) m xs) : ∃ g, a = ⟨g, 0, none⟩ := by
  rcases h.2 with ⟨h1, -⟩ | ⟨g, cap2, cur, h1, -⟩
  · cases h1
  · injection h1 with e1
    injection e1 with e1
    exact ⟨g, e1⟩
theorem sort_nil (w : World) : Calls Tryz.prog 74 #[.slice none 0 0, .func (.func 75) #[] #[]] w fun e w' => e = .returned (.tuple #[]) ∧ w' = w := AnyF.slices_SortFunc_none sortL none 0 (.func (.func 75) #[] #[]) w
set_option maxRecDepth 100000 in
set_option maxHeartbeats 8000000 in
theorem sm_top (p : Addr) (F : Nat → Prop) (c : Cfg) (sts : List LS) (n least bud : Int) (w : World) (h : ST w p F c sts) (n0 : -9223372036854775808 ≤ n) (n1 : n ≤ 9223372036854775807) (l0 : -9223372036854775808 ≤ least) (l1 : least ≤ 9223372036854775807) (u0 : -9223372036854775808 ≤ bud) (u1 : bud ≤ 9223372036854775807) :
    Calls Tryz.prog 34 #[.pointer (some p), .int .i64 n, .int .i64 least, .int .i64 bud] w fun e w' => ∃ (A : Option Addr) (m cap : Nat), e = .returned (.tuple #[.slice A m cap, .int .i64 (hvC c (fun L i => spV c sts (L : Int) i) least bud)]) ∧ (stRowT 3 encK A m cap (tpL c (fun L i => spV c sts (L : Int) i) n least bud)).I w' ∧ (∀ q, (stRowT 3 encK A m cap (tpL c (fun L i => spV c sts (L : Int) i) n least bud)).F q → w.heap.size ≤ q) ∧ Below w.heap.size w w' := by
  have CH := Lib.hid (hv_own p F c sts least bud w h l0 l1 u0 u1)
  have HNO := Lib.hid (fun hh => tp_no (c := c) (pt := (fun L i => spV c sts (L : Int) i)) (n := n) (least := least) (bud := bud) hh)
  have HTP : Hid (tpL c (fun L i => spV c sts (L : Int) i) n least bud = (sortK (hvL c (fun L i => spV c sts (L : Int) i) least bud)).take n.toNat) := Lib.hid rfl
  have HLB := Lib.hid (hvL_le c (fun L i => spV c sts (L : Int) i) least bud)
  obtain ⟨E, hE⟩ : ∃ v, hvC c (fun L i => spV c sts (L : Int) i) least bud = v := ⟨_, rfl⟩
  obtain ⟨L, hL⟩ : ∃ v, hvL c (fun L i => spV c sts (L : Int) i) least bud = v := ⟨_, rfl⟩
  obtain ⟨TL, hTL⟩ : ∃ v, tpL c (fun L i => spV c sts (L : Int) i) n least bud = v := ⟨_, rfl⟩
  rw [hE, hL] at CH
  rw [hE] at HNO ⊢
  rw [hTL] at HNO HTP ⊢
  rw [hL] at HTP HLB
  have HN := Lib.hid (And.intro n0 n1)
  clear hE hL hTL h n0 n1 l0 l1 u0 u1
  by_cases hE0 : E = 0
  · subst hE0
    clear HNO
    go_enter Tryz.func34, Tryz.ntmps34
    go_upto_region 4 with (go_at_call 17; (with_reducible refine (CH.out).mono ?_); rintro e w1 ⟨A, m, cap, rfl, ho, hl, hb⟩; have HO := Lib.hid ho; have HL := Lib.hid hl; have HB1 := Lib.hid hb; clear ho hl hb)
    cases A with
    | none =>
      have hz : m = 0 ∧ cap = 0 ∧ L = [] := own_none HO.out HL.out
      obtain ⟨rfl, rfl, hLn⟩ := hz
      have HTE : Hid (TL = []) := Lib.hid (by rw [HTP.out, hLn]; exact List.eq_nil_of_length_eq_zero (by rw [List.length_take, sortK_len]; exact Nat.min_eq_right (Nat.zero_le _)))
      clear hLn
      go_upto_region 6 with (first
        | (go_at_call 72; (with_reducible refine (del_nil _).mono ?_); rintro e w2 ⟨rfl, hb⟩; have HB2 := Lib.hid (HB1.out.trans (hb.mono HB1.out.size)); clear hb)
        | (go_at_call 74; (with_reducible refine (sort_nil _).mono ?_); rintro e w3 ⟨rfl, hw⟩; subst hw))
      have hnn : n < 0 ∨ n = 0 ∨ 0 < n := by omega
      rcases hnn with hn | rfl | hn
      all_goals go_wp2
      all_goals refine bodyPost_ret (v := .tuple #[.slice none 0 0, .int .i64 0]) (by simp [results, Tryz.results34, go_sem] <;> omega) rfl ?_
      all_goals rw [HTE.out]
      all_goals exact ⟨none, 0, 0, rfl, st_nil 3 encK _, (fun q hq => by obtain ⟨a, e, _⟩ := hq; cases e), HB2.out⟩
    | some a =>
      obtain ⟨g, rfl⟩ := own_at HO.out
      obtain ⟨rest, hbd, hrl, hmc, hcm, hgb⟩ := own_body HO.out HL.out
      have HRL := Lib.hid hrl
      have HMC := Lib.hid (And.intro hmc (And.intro hcm hgb))
      have hm5 : m ≤ 5000 := by have := HLB.out; rw [HL.out] at this; omega
      have CD := Lib.hid (del_any g m cap L rest w1 hbd HL.out hm5 hmc hcm hrl)
      have hf9 : (L.filter lowB).length ≤ m := by rw [← HL.out]; exact List.length_filter_le _ _
      have CS := Lib.hid (fun rest w h => sort_any g cap L rest w h (by rw [HL.out]; exact hm5) (Nat.le_trans hf9 hmc) hcm)
      have HSL : Hid ((sortK L).length = (L.filter lowB).length) := Lib.hid (by rw [sortK_len, low_len])
      obtain ⟨M, hM⟩ : ∃ v, (L.filter lowB).length = v := ⟨_, rfl⟩
      rw [hM] at CD CS HSL hf9
      have hmcp : M ≤ cap := Nat.le_trans hf9 hmc
      clear hbd hrl hcm hgb hm5 hM hmc hf9
      go_upto_region 6 with (first
        | (go_at_call 72; (with_reducible refine CD.out.mono ?_); rintro e w2 ⟨rest2, rfl, hb2, hr2, hk2⟩; have HBD2 := Lib.hid hb2; have HK2 := Lib.hid hk2; clear hb2 hr2 hk2)
        | (go_at_call 74; (with_reducible refine (CS.out _ _ HBD2.out).mono ?_); rintro e w3 ⟨rfl, hs3, hk3⟩; have HS3 := Lib.hid hs3; have HK3 := Lib.hid (HK2.out.trans hk3 (fun _ _ h => h)); clear hs3 hk3))
      have HB3 := Lib.hid (HK3.out.low HB1.out HB1.out.size (fun q hq => by subst hq; exact HMC.out.2.2))
      have HGB : Hid (w.heap.size ≤ g) := Lib.hid HMC.out.2.2
      have hnb := HN.out
      have q0 : (0 : Int) ≤ (M : Int) := by omega
      have q1 : (M : Int) ≤ (cap : Int) := by omega
      by_cases hneg : n ≤ 0
      · have HTE : Hid (TL = (sortK L).take 0) := Lib.hid (by rw [HTP.out, show n.toNat = 0 by omega])
        have hnn : (n < 0 ∧ M = 0) ∨ (n < 0 ∧ 0 < M) ∨ (n = 0 ∧ M = 0) ∨ (n = 0 ∧ 0 < M) := by omega
        rcases hnn with ⟨hn, hM0⟩ | ⟨hn, hM0⟩ | ⟨rfl, hM0⟩ | ⟨rfl, hM0⟩
        all_goals try subst hM0
        all_goals go_wp2
        all_goals refine bodyPost_ret (v := .tuple #[.slice (some ⟨g, 0, none⟩) 0 cap, .int .i64 0]) (by simp [results, Tryz.results34, go_sem] <;> omega) rfl ?_
        all_goals rw [HTE.out]
        all_goals exact ⟨some ⟨g, 0, none⟩, 0, cap, rfl, st_take HS3.out (Nat.zero_le _), (fun q hq => by obtain ⟨a, e, e2⟩ := hq; injection e with e; subst e; subst e2; exact HGB.out), HB3.out⟩
      · obtain ⟨k, rfl⟩ : ∃ k : Nat, n = (k : Int) := ⟨n.toNat, by omega⟩
        have z1 : ¬ (k : Int) ≤ 0 := hneg
        have z2 : (0 : Int) < (k : Int) := by omega
        have z3 : 0 < k := by omega
        have z4 : ¬ (k : Int) < 0 := by omega
        have z5 : ¬ k = 0 := by omega
        rcases Nat.lt_trichotomy k M with hkm | rfl | hkm
        · have HTE : Hid (TL = (sortK L).take k) := Lib.hid (by rw [HTP.out]; rfl)
          have y1 : (k : Int) < (M : Int) := by omega
          have y2 : ¬ M < k := by omega
          have y3 : (k : Int) ≤ (cap : Int) := by omega
          have y4 : (0 : Int) ≤ (k : Int) := by omega
          go_wp2
          all_goals refine bodyPost_ret (v := .tuple #[.slice (some ⟨g, 0, none⟩) k cap, .int .i64 0]) (by simp [results, Tryz.results34, go_sem] <;> omega) rfl ?_
          all_goals rw [HTE.out]
          all_goals exact ⟨some ⟨g, 0, none⟩, k, cap, rfl, st_take HS3.out (Nat.le_of_lt hkm), (fun q hq => by obtain ⟨a, e, e2⟩ := hq; injection e with e; subst e; subst e2; exact HGB.out), HB3.out⟩
        · have HTE : Hid (TL = (sortK L).take k) := Lib.hid (by rw [HTP.out]; rfl)
          go_wp2
          all_goals refine bodyPost_ret (v := .tuple #[.slice (some ⟨g, 0, none⟩) k cap, .int .i64 0]) (by simp [results, Tryz.results34, go_sem] <;> omega) rfl ?_
          all_goals rw [HTE.out]
          all_goals exact ⟨some ⟨g, 0, none⟩, k, cap, rfl, st_take HS3.out (Nat.le_refl _), (fun q hq => by obtain ⟨a, e, e2⟩ := hq; injection e with e; subst e; subst e2; exact HGB.out), HB3.out⟩
        · have HTE : Hid (TL = (sortK L).take M) := Lib.hid (by rw [HTP.out, List.take_of_length_le (by rw [HSL.out]; show M ≤ k; omega), List.take_of_length_le (by rw [HSL.out]; exact Nat.le_refl _)])
          have y1 : (M : Int) < (k : Int) := by omega
          have y2 : ¬ k < M := by omega
          go_wp2
          all_goals refine bodyPost_ret (v := .tuple #[.slice (some ⟨g, 0, none⟩) M cap, .int .i64 0]) (by simp [results, Tryz.results34, go_sem] <;> omega) rfl ?_
          all_goals rw [HTE.out]
          all_goals exact ⟨some ⟨g, 0, none⟩, M, cap, rfl, st_take HS3.out (Nat.le_refl _), (fun q hq => by obtain ⟨a, e, e2⟩ := hq; injection e with e; subst e; subst e2; exact HGB.out), HB3.out⟩
  · have hE1 : ((E : Int) == 0) = false := beq_eq_false_iff_ne.2 hE0
    have hE2 : ((E : Int) != 0) = true := by simp [hE0]
    have HT := Lib.hid (HNO.out hE0)
    go_enter Tryz.func34, Tryz.ntmps34
    go_wp2_with (go_at_call 17; (with_reducible refine (CH.out).mono ?_); rintro e w1 ⟨A, m, cap, rfl, ho, hl, hb⟩; have HB1 := Lib.hid hb; clear ho hl hb)
    refine bodyPost_ret (v := .tuple #[.slice none 0 0, .int .i64 E]) (by simp [results, Tryz.results34, go_sem] <;> omega) rfl ?_
    rw [HT.out]
    exact ⟨none, 0, 0, rfl, st_nil 3 encK _, (fun q hq => by obtain ⟨a, e, _⟩ := hq; cases e), HB1.out⟩
end Go.Proofs.YtkflggojiiebeaaGreat.Smr

namespace Go.Proofs.YtkflggojiiebeaaGreat.Stk
open Go Go.RowKit Lw Grd Lin Con Shp Sk Exa Lev
set_option linter.unusedVariables false
set_option linter.unusedSimpArgs false
theorem box6 {w : World} {b : Nat} {e : TypeId} {v0 v1 v2 v3 v4 v5 : Value} (h : (boxT b e #[v0, v1, v2, v3, v4, v5]).I w) : w.cell? ⟨b, 0, none⟩ = some v0 ∧ w.cell? ⟨b, 1, none⟩ = some v1 ∧ w.cell? ⟨b, 2, none⟩ = some v2 ∧ w.cell? ⟨b, 3, none⟩ = some v3 ∧ w.cell? ⟨b, 4, none⟩ = some v4 ∧ w.cell? ⟨b, 5, none⟩ = some v5 :=
  ⟨box_cell h rfl, box_cell h rfl, box_cell h rfl, box_cell h rfl, box_cell h rfl, box_cell h rfl⟩
end Go.Proofs.YtkflggojiiebeaaGreat.Stk

namespace Go.Proofs.YtkflggojiiebeaaGreat.Hvy
open Go Go.RowKit Lw Grd Lin Con Shp Sk Exa Lev Stk Pcs Spn Qnt
set_option linter.unusedVariables false
set_option linter.unusedSimpArgs false
def lH : Cfg := ⟨2, 1, 4, 1, 0⟩
theorem lH_ok : lH.Ok := by constructor <;> decide
theorem lH_r : IsRight lH := by decide
theorem lH_k : keys lH 0 = 4 := by decide
theorem lH_in {us : Ups} (h : ∀ u ∈ us, (0 ≤ u.1 ∧ u.1 < 4) ∧ (-1099511627776 ≤ u.2 ∧ u.2 ≤ 1099511627776)) : UpsIn lH 0 us :=
  ⟨fun u hu => ⟨(h u hu).1.1, by rw [lH_k]; exact (h u hu).1.2, (h u hu).2⟩, fun hm => by simp [lH] at hm⟩
theorem sH_1 : sucode lH (stsOf lH []) 1 5 = 0 ∧ sures lH (stsOf lH []) 1 5 = stsOf lH [(1, 5)] :=
  stsOf_step lH_r (lH_in (fun u hu => by simp at hu)) (by decide) (u := (1, 5)) (lH_in (fun u hu => by rw [List.mem_singleton.1 hu]; decide))
theorem sH_2 : sucode lH (stsOf lH [(1, 5)]) 2 3 = 0 ∧ sures lH (stsOf lH [(1, 5)]) 2 3 = stsOf lH [(1, 5), (2, 3)] :=
  stsOf_step lH_r (lH_in (fun u hu => by rw [List.mem_singleton.1 hu]; decide)) (by decide) (u := (2, 3)) (lH_in (fun u hu => by rw [List.mem_singleton.1 hu]; decide))
theorem hn_1 (w : World) : Calls Tryz.prog 13 #[.agg #[.int .i64 2, .int .i64 1, .int .i64 4, .int .i64 1, .int .u64 0]] w fun e w' => ∃ (p : Addr) (F : Nat → Prop), e = .returned (.tuple #[.pointer (some p), .int .i64 0]) ∧ ST w' p F lH (stsOf lH []) ∧ (∀ k, F k → w.heap.size ≤ k) ∧ Below w.heap.size w w' := cs_new lH w lH_ok lH_r
theorem hu_any (p : Addr) (F : Nat → Prop) (sts sts2 : List LS) (k d x : Int) (w : World) (h : ST w p F lH sts) (k0 : 0 ≤ k) (k1 : k ≤ 18446744073709551615) (d0 : -9223372036854775808 ≤ d) (d1 : d ≤ 9223372036854775807) (hu : sucode lH sts k d = x ∧ sures lH sts k d = sts2) :
    Calls Tryz.prog 15 #[.pointer (some p), .int .u64 k, .int .i64 d] w fun e w' => e = .returned (.int .i64 x) ∧ ∃ F', ST w' p F' lH sts2 ∧ Kept F w w' ∧ (∀ q, F' q → F q ∨ w.heap.size ≤ q) := by
  have h1 := cs_upd p F lH sts k d w h k0 k1 d0 d1
  rw [hu.1, hu.2] at h1
  exact h1
end Go.Proofs.YtkflggojiiebeaaGreat.Hvy

namespace Go.Proofs.YtkflggojiiebeaaGreat.Smr
open Go Go.RowKit Lw Grd Lin Con Shp Sk Exa Lev Stk
set_option linter.unusedVariables false
set_option linter.unusedSimpArgs false
theorem open_playX_c : Tryz.prog.cellsOf 63 = 6 := by kernel_rfl
set_option maxRecDepth 100000 in
theorem open_playX {H : Type} {enc : TypeId × Value → H} {w : World} {v : Value} {d : DataW H} {p : List MemPlace} {base : Nat} (hv : Value.okWide Tryz.prog w .any base 63 v)
    (h : DataW.Trod enc Tryz.prog w 0 (fun _ => true) true 63 v d p) :
    ∃ (c : Cfg) (A : Option Addr) (n k : Nat) (qs : Ups), v = .agg #[.int .i64 c.bt, .int .i64 c.rw, .int .i64 c.wd, .int .i64 c.md, .int .u64 c.sd, .slice A n k] ∧ c.Ok ∧ UpdV w A n k qs := by
  have hcs : ∃ cs : Array Value, v = .agg cs ∧ cs.size = Tryz.prog.cellsOf 63 := by
    simp only [Value.okWide, Tryz.underlying63] at hv
    obtain ⟨cs, h1, h2, _⟩ := hv
    exact ⟨cs, h1, h2⟩
  obtain ⟨⟨l⟩, rfl, hsz⟩ := hcs
  rw [open_playX_c] at hsz
  obtain ⟨fuel, hf0⟩ := h
  obtain ⟨xs, k, _, _, _, hxl, hf⟩ := DataW.trod_struct Tryz.underlying63 hf0
  match xs, hxl, l, hsz with
  | [y0, y1], _, [v0, v1, v2, v3, v4, v5], _ =>
    have g0 := hf 0 _ rfl
    have g1 := hf 1 _ rfl
    simp [Value.cells, show Tryz.prog.cellsOf 24 = 5 from by kernel_rfl, show Tryz.prog.cellsOf 25 = 1 from by kernel_rfl] at g0 g1
    obtain ⟨zs, k2, _, _, _, hzl, hz⟩ := DataW.trod_struct Tryz.underlying24 g0
    match zs, hzl with
    | [z0, z1, z2, z3, z4], _ =>
      have c0 := hz 0 _ rfl
      have c1 := hz 1 _ rfl
      have c2 := hz 2 _ rfl
      have c3 := hz 3 _ rfl
      have c4 := hz 4 _ rfl
      simp [show Tryz.prog.cellsOf 3 = 1 from by kernel_rfl, show Tryz.prog.cellsOf 22 = 1 from by kernel_rfl] at c0 c1 c2 c3 c4
      obtain ⟨x0, f0, _, w0⟩ := DataW.trod_int (show Tryz.prog.underlying 3 = some (.int .i64) by kernel_rfl) c0
      simp at f0
      subst f0
      obtain ⟨x1, f1, _, w1⟩ := DataW.trod_int (show Tryz.prog.underlying 3 = some (.int .i64) by kernel_rfl) c1
      simp at f1
      subst f1
      obtain ⟨x2, f2, _, w2⟩ := DataW.trod_int (show Tryz.prog.underlying 3 = some (.int .i64) by kernel_rfl) c2
      simp at f2
      subst f2
      obtain ⟨x3, f3, _, w3⟩ := DataW.trod_int (show Tryz.prog.underlying 3 = some (.int .i64) by kernel_rfl) c3
      simp at f3
      subst f3
      obtain ⟨x4, f4, _, w4⟩ := DataW.trod_int (show Tryz.prog.underlying 22 = some (.int .u64) by kernel_rfl) c4
      simp at f4
      subst f4
      obtain ⟨A, n, cp, qs, f6, h0, h1, h2, h3, h4⟩ := open_upds g1
      simp at f6
      subst f6
      have b0 := Lw.wf_i64 w0
      have b1 := Lw.wf_i64 w1
      have b2 := Lw.wf_i64 w2
      have b3 := Lw.wf_i64 w3
      have b4 := Lw.wf_u64 w4
      exact ⟨⟨x0, x1, x2, x3, x4⟩, A, n, cp, qs, rfl, ⟨b0.1, b0.2, b1.1, b1.2, b2.1, b2.2, b3.1, b3.2, b4.1, b4.2⟩, ⟨h0, h1, h2, h3, h4⟩⟩
theorem lst_uint64_c : Tryz.prog.cellsOf 22 = 1 := by kernel_rfl
set_option maxRecDepth 100000 in
theorem open_list_uint64 {H : Type} {enc : TypeId × Value → H} {W : World} {v : Value} {d : DataW H} {p : List MemPlace} {base : Nat} (hv : Value.okWide Tryz.prog W .any base 66 v)
    (h : DataW.Trod enc Tryz.prog W 0 (fun _ => true) true 66 v d p) :
    ∃ (A : Option Addr) (n cap : Nat) (zs : List Int), v = .slice A n cap ∧ (A = none → n = 0 ∧ cap = 0) ∧ n ≤ cap ∧ cap ≤ maxLen ∧ Rd .u64 W A zs ∧ zs.length = n ∧ (∀ v ∈ zs, 0 ≤ v ∧ v ≤ 18446744073709551615) := by
  obtain ⟨a0, len, cap, rfl⟩ := Go.WideShapes.okWide_slice Tryz.underlying66 hv
  obtain ⟨fuel, hf⟩ := h
  rcases Go.ChangeShapes.open_ints Tryz.underlying66 Tryz.underlying22 lst_uint64_c hf with ⟨hcs, _⟩ | ⟨a, len', cap', zs, hcs, _, hl, hm, hz, _, hcell, hwz⟩
  · simp [Value.cells] at hcs
    obtain ⟨rfl, rfl, rfl⟩ := hcs
    exact ⟨none, 0, 0, [], rfl, fun _ => ⟨rfl, rfl⟩, Nat.le_refl _, by simp, rd_nil _ _ _, rfl, fun v h => by simp at h⟩
  · simp [Value.cells] at hcs
    obtain ⟨rfl, rfl, rfl⟩ := hcs
    have hz2 : zs.length = cap := by simpa using hz
    refine ⟨some a, len, cap, zs.take len, rfl, (fun h => by cases h), hl, hm, ?_, by simp; omega, ?_⟩
    · intro k v hk
      rw [List.getElem?_take] at hk
      split at hk
      · refine ⟨a, rfl, ?_⟩
        rw [hcell k (by omega)]
        simp [hk]
      · cases hk
    · intro v hv
      exact Lw.wf_u64 (hwz v (List.mem_of_mem_take hv))
end Go.Proofs.YtkflggojiiebeaaGreat.Smr

namespace Go.Proofs.YtkflggojiiebeaaGreat.Smr
open Go Go.RowKit Lw Grd Lin Con Shp Sk Exa Lev Stk Pcs Spn Qnt Hvy
set_option linter.unusedVariables false
set_option linter.unusedSimpArgs false
theorem wq_5 : wayQ (fun L i => spV lH (stsOf lH [(1, 5), (2, 3)]) (L : Int) i) 2 0 5 = some [(2, 0), (1, 0), (0, 1)] := by decide
theorem wq_6 : wayQ (fun L i => spV lH (stsOf lH [(1, 5), (2, 3)]) (L : Int) i) 2 0 6 = some [(2, 0), (1, 1), (0, 2)] := by decide
theorem wq_t : spV lH (stsOf lH [(1, 5), (2, 3)]) ((lH.bt.toNat : Nat) : Int) 0 = 8 := by decide
theorem qs_5 : qnC lH (fun L i => spV lH (stsOf lH [(1, 5), (2, 3)]) (L : Int) i) 5 = 0 ∧ qnV lH (fun L i => spV lH (stsOf lH [(1, 5), (2, 3)]) (L : Int) i) 5 = 1 := by
  have h := qn_yes (c := lH) (pt := (fun L i => spV lH (stsOf lH [(1, 5), (2, 3)]) (L : Int) i)) (k := 5) (by decide) (by rw [wq_t]; decide) wq_5
  exact ⟨h.1, h.2.2.trans (by decide)⟩
theorem qs_6 : qnC lH (fun L i => spV lH (stsOf lH [(1, 5), (2, 3)]) (L : Int) i) 6 = 0 ∧ qnV lH (fun L i => spV lH (stsOf lH [(1, 5), (2, 3)]) (L : Int) i) 6 = 2 := by
  have h := qn_yes (c := lH) (pt := (fun L i => spV lH (stsOf lH [(1, 5), (2, 3)]) (L : Int) i)) (k := 6) (by decide) (by rw [wq_t]; decide) wq_6
  exact ⟨h.1, h.2.2.trans (by decide)⟩
theorem mq_s : manyC (qnF lH (fun L i => spV lH (stsOf lH [(1, 5), (2, 3)]) (L : Int) i)) [5, 6] = 0 ∧ manyL (qnF lH (fun L i => spV lH (stsOf lH [(1, 5), (2, 3)]) (L : Int) i)) [5, 6] = [1, 2] := by
  have h := many_ok (f := qnF lH (fun L i => spV lH (stsOf lH [(1, 5), (2, 3)]) (L : Int) i)) (l := [5, 6]) (fun q hq => by
    rcases List.mem_cons.1 hq with rfl | hq
    · exact qs_5.1
    · rw [List.mem_singleton.1 hq]; exact qs_6.1)
  refine ⟨h.1, h.2.trans ?_⟩
  show [qnV lH (fun L i => spV lH (stsOf lH [(1, 5), (2, 3)]) (L : Int) i) 5, qnV lH (fun L i => spV lH (stsOf lH [(1, 5), (2, 3)]) (L : Int) i) 6] = [1, 2]
  rw [qs_5.2, qs_6.2]
theorem cv_s0 : Cov 2 2 0 [(1, 0)] := .cons (L := 1) (by unfold GL; decide) .nil
theorem cv_s2 : Cov 2 4 2 [(1, 1)] := .cons (L := 1) (by unfold GL; decide) .nil
theorem pts_0 : parts lH (fun L i => spV lH (stsOf lH [(1, 5), (2, 3)]) (L : Int) i) 0 1 = [5] := by
  unfold parts
  rw [covL_eq (n := lH.bt.toNat) (lo := (0 : Int).toNat) (hi := (1 : Int).toNat) cv_s0]
  decide
theorem pts_2 : parts lH (fun L i => spV lH (stsOf lH [(1, 5), (2, 3)]) (L : Int) i) 2 3 = [3] := by
  unfold parts
  rw [covL_eq (n := lH.bt.toNat) (lo := (2 : Int).toNat) (hi := (3 : Int).toNat) cv_s2]
  decide
theorem pcs_any (lo hi : Int) (h1 : lo ≤ hi) (h2 : hi < 4) : ptC2 lH lo hi = 0 := by
  unfold ptC2
  rw [lH_k, if_neg (by omega), if_neg (by omega)]
theorem rgs_0 : rgV lH (fun L i => spV lH (stsOf lH [(1, 5), (2, 3)]) (L : Int) i) 0 1 = 5 ∧ rgC lH (fun L i => spV lH (stsOf lH [(1, 5), (2, 3)]) (L : Int) i) 0 1 = 0 := by
  have h : rgC lH (fun L i => spV lH (stsOf lH [(1, 5), (2, 3)]) (L : Int) i) 0 1 = 0 := by
    unfold rgC
    rw [if_pos (pcs_any 0 1 (by decide) (by decide)), pts_0]
    decide
  exact ⟨by unfold rgV; rw [if_pos h, pts_0]; decide, h⟩
theorem rgs_2 : rgV lH (fun L i => spV lH (stsOf lH [(1, 5), (2, 3)]) (L : Int) i) 2 3 = 3 ∧ rgC lH (fun L i => spV lH (stsOf lH [(1, 5), (2, 3)]) (L : Int) i) 2 3 = 0 := by
  have h : rgC lH (fun L i => spV lH (stsOf lH [(1, 5), (2, 3)]) (L : Int) i) 2 3 = 0 := by
    unfold rgC
    rw [if_pos (pcs_any 2 3 (by decide) (by decide)), pts_2]
    decide
  exact ⟨by unfold rgV; rw [if_pos h, pts_2]; decide, h⟩
theorem hs_2 : hgC lH (fun L i => spV lH (stsOf lH [(1, 5), (2, 3)]) (L : Int) i) [2] = 0 ∧ hgL lH (fun L i => spV lH (stsOf lH [(1, 5), (2, 3)]) (L : Int) i) [2] = [5, 3] := by
  have h0 : cutC (keys lH 0) [2] = 0 := by rw [lH_k]; decide
  have h := hg_yes (c := lH) (pt := (fun L i => spV lH (stsOf lH [(1, 5), (2, 3)]) (L : Int) i)) h0
  have e : spansQ (keys lH 0) [2] = [(0, 1), (2, 3)] := by rw [lH_k]; decide
  rw [e] at h
  have h1 := many_ok (f := rgF lH (fun L i => spV lH (stsOf lH [(1, 5), (2, 3)]) (L : Int) i)) (l := [(0, 1), (2, 3)]) (fun q hq => by
    rcases List.mem_cons.1 hq with rfl | hq
    · exact rgs_0.2
    · rw [List.mem_singleton.1 hq]; exact rgs_2.2)
  refine ⟨h.1.trans h1.1, h.2.trans (h1.2.trans ?_)⟩
  show [rgV lH (fun L i => spV lH (stsOf lH [(1, 5), (2, 3)]) (L : Int) i) 0 1, rgV lH (fun L i => spV lH (stsOf lH [(1, 5), (2, 3)]) (L : Int) i) 2 3] = [5, 3]
  rw [rgs_0.1, rgs_2.1]
theorem hs_22 : hgC lH (fun L i => spV lH (stsOf lH [(1, 5), (2, 3)]) (L : Int) i) [2, 2] = 1 := by
  have h0 : cutC (keys lH 0) [2, 2] = 1 := by rw [lH_k]; decide
  exact (hg_no (c := lH) (pt := (fun L i => spV lH (stsOf lH [(1, 5), (2, 3)]) (L : Int) i)) (l := [2, 2]) (by rw [h0]; decide)).1.trans h0
theorem fs_1 : foundQ (fun L i => spV lH (stsOf lH [(1, 5), (2, 3)]) (L : Int) i) 1 2 3 = [((2, 0), (8 : Int)), ((1, 0), 5), ((1, 1), 3), ((0, 1), 5), ((0, 2), 3)] := by decide
theorem ns_1 : countQ (fun L i => spV lH (stsOf lH [(1, 5), (2, 3)]) (L : Int) i) 1 2 3 = 7 := by decide
theorem hv_17 : hvC lH (fun L i => spV lH (stsOf lH [(1, 5), (2, 3)]) (L : Int) i) 1 7 = 0 ∧ hvL lH (fun L i => spV lH (stsOf lH [(1, 5), (2, 3)]) (L : Int) i) 1 7 = [((2, 0), (8 : Int)), ((1, 0), 5), ((1, 1), 3), ((0, 1), 5), ((0, 2), 3)] := by
  have h := hv_yes (c := lH) (pt := (fun L i => spV lH (stsOf lH [(1, 5), (2, 3)]) (L : Int) i)) (least := 1) (bud := 7) (by decide) (by decide) (by rw [show lH.bt.toNat = 2 from rfl, ns_1]; decide)
  exact ⟨h.1, h.2.trans fs_1⟩
theorem tp_s : tpL lH (fun L i => spV lH (stsOf lH [(1, 5), (2, 3)]) (L : Int) i) 1 1 7 = [(1, 5)] := by
  unfold tpL
  rw [hv_17.2]
  have hT : (sortK [((2, 0), (8 : Int)), ((1, 0), 5), ((1, 1), 3), ((0, 1), 5), ((0, 2), 3)])[0]? = some (1, 5) := by
    refine next_best (by decide) (x := (1, 5)) (k := 0) (mem_sortK.2 (by decide)) (by simp) (fun y hy _ => ?_)
    have hm := mem_sortK.1 hy
    obtain ⟨a, b⟩ := y
    simp at hm
    rcases hm with ⟨rfl, rfl⟩ | ⟨rfl, rfl⟩ <;> decide
  show List.take 1 _ = _
  rw [List.take_add_one, List.take_zero, hT]
  rfl
theorem lit2 (X : World) (k : IntKind) (a b : Int) (e : TypeId) : Rd k (X.alloc (.cells #[.int k a, .int k b] e)) (some ⟨X.heap.size, 0, none⟩) [a, b] :=
  rd2 (box_cell (e := e) (vs := #[.int k a, .int k b]) (heap_alloc_new X _) rfl) (box_cell (e := e) (vs := #[.int k a, .int k b]) (heap_alloc_new X _) rfl)
theorem lit1 (X : World) (k : IntKind) (a : Int) (e : TypeId) : Rd k (X.alloc (.cells #[.int k a] e)) (some ⟨X.heap.size, 0, none⟩) [a] :=
  rd_one (box_cell (e := e) (vs := #[.int k a]) (heap_alloc_new X _) rfl)
theorem ts_q (p : Addr) (F : Nat → Prop) (X : World) (h : ST X p F lH (stsOf lH [(1, 5), (2, 3)])) :
    Calls Tryz.prog 28 #[.pointer (some p), .slice (some ⟨X.heap.size, 0, none⟩) 2 2] (X.alloc (.cells #[.int .i64 5, .int .i64 6] 2)) fun e w' => ∃ (g cap : Nat), e = .returned (.tuple #[.slice (some ⟨g, 0, none⟩) 2 cap, .int .i64 0]) ∧ w'.cell? ⟨g, 0, none⟩ = some (.int .u64 1) ∧ w'.cell? ⟨g, 1, none⟩ = some (.int .u64 2) ∧ Below X.heap.size X w' := by
  have hX := Lw.below_alloc (Below.refl _ X) (.cells #[.int .i64 5, .int .i64 6] 2)
  refine (sm_quants p F lH (stsOf lH [(1, 5), (2, 3)]) (some ⟨X.heap.size, 0, none⟩) 2 2 [5, 6] _ (h.up hX) (fun h => by cases h) (lit2 X .i64 5 6 2) rfl (fun v hv => by simp at hv; omega) (by decide)).mono ?_
  rintro e w' ⟨A2, n2, cap2, rfl, ho, hl, hb⟩
  rw [mq_s.2] at ho hl
  rw [mq_s.1]
  obtain rfl : 2 = n2 := hl
  obtain ⟨g, rfl⟩ := own_some ho (by decide)
  exact ⟨g, cap2, rfl, ho.cells (g := g) rfl 0 _ rfl, ho.cells (g := g) rfl 1 _ rfl, hX.trans (hb.mono hX.size)⟩
theorem ts_h (p : Addr) (F : Nat → Prop) (X : World) (h : ST X p F lH (stsOf lH [(1, 5), (2, 3)])) :
    Calls Tryz.prog 31 #[.pointer (some p), .slice (some ⟨X.heap.size, 0, none⟩) 1 1] (X.alloc (.cells #[.int .u64 2] 22)) fun e w' => ∃ (A : Option Addr) (cap : Nat), e = .returned (.tuple #[.slice A 2 cap, .int .i64 0]) ∧ Rd .i64 w' A [5, 3] ∧ Below X.heap.size X w' := by
  have hX := Lw.below_alloc (Below.refl _ X) (.cells #[.int .u64 2] 22)
  refine (sm_histo p F lH (stsOf lH [(1, 5), (2, 3)]) (some ⟨X.heap.size, 0, none⟩) 1 1 [2] _ (h.up hX) (fun h => by cases h) (lit1 X .u64 2 22) rfl (fun v hv => by simp at hv; omega) (by decide) lH_ok).mono ?_
  rintro e w' ⟨A2, n2, cap2, rfl, ho, hl, hb⟩
  rw [hs_2.2] at ho hl
  rw [hs_2.1]
  obtain rfl : 2 = n2 := hl
  obtain ⟨A, cap, e1, hr, -⟩ := own_rd ho
  injection e1 with e1 e2 e3
  subst e1
  exact ⟨A2, cap2, rfl, hr, hX.trans (hb.mono hX.size)⟩
theorem ts_h2 (p : Addr) (F : Nat → Prop) (X : World) (h : ST X p F lH (stsOf lH [(1, 5), (2, 3)])) :
    Calls Tryz.prog 31 #[.pointer (some p), .slice (some ⟨X.heap.size, 0, none⟩) 2 2] (X.alloc (.cells #[.int .u64 2, .int .u64 2] 22)) fun e w' => ∃ (A : Option Addr) (n cap : Nat), e = .returned (.tuple #[.slice A n cap, .int .i64 1]) ∧ Below X.heap.size X w' := by
  have hX := Lw.below_alloc (Below.refl _ X) (.cells #[.int .u64 2, .int .u64 2] 22)
  refine (sm_histo p F lH (stsOf lH [(1, 5), (2, 3)]) (some ⟨X.heap.size, 0, none⟩) 2 2 [2, 2] _ (h.up hX) (fun h => by cases h) (lit2 X .u64 2 2 22) rfl (fun v hv => by simp at hv; omega) (by decide) lH_ok).mono ?_
  rintro e w' ⟨A2, n2, cap2, rfl, ho, hl, hb⟩
  rw [hs_22]
  exact ⟨A2, n2, cap2, rfl, hX.trans (hb.mono hX.size)⟩
theorem ts_t (p : Addr) (F : Nat → Prop) (w : World) (h : ST w p F lH (stsOf lH [(1, 5), (2, 3)])) :
    Calls Tryz.prog 34 #[.pointer (some p), .int .i64 1, .int .i64 1, .int .i64 7] w fun e w' => ∃ (A : Option Addr) (cap : Nat), e = .returned (.tuple #[.slice A 1 cap, .int .i64 0]) ∧ StV 3 encK w' A 1 cap [(1, 5)] ∧ Below w.heap.size w w' := by
  refine (sm_top p F lH (stsOf lH [(1, 5), (2, 3)]) 1 1 7 w h (by decide) (by decide) (by decide) (by decide) (by decide) (by decide)).mono ?_
  rintro e w' ⟨A, m, cap, rfl, h1, h2, hb⟩
  rw [tp_s] at h1
  rw [hv_17.1]
  obtain rfl : 1 = m := (strI h1).len
  exact ⟨A, cap, rfl, strI h1, hb⟩
set_option maxRecDepth 100000 in
set_option maxHeartbeats 8000000 in
theorem shown_any (w : World) : Calls Tryz.prog 26 #[] w fun e w' => e = .returned (.bool true) ∧ Below w.heap.size w w' := by
  have HV0 : Hid (Have w w []) := Lib.hid (Below.refl _ _)
  have eq2 : decide ([(5 : Int), 3] = [5, 3]) = true := decide_eq_true rfl
  go_enter Tryz.func26, Tryz.ntmps26
  go_upto_region 10 with (first
    | (go_at_call 31; (with_reducible refine (ts_h2 p F2 _ (stI HV6.out.i0)).mono ?_); rintro e w7 ⟨A7, n7, cap7, rfl, hb⟩; have HB7 := Lib.hid hb; have HV7 := Lib.hid (HV6.out.up hb); clear hb; have RT := Lib.hid (RT.out.up HB7.out); have RH := Lib.hid (RH.out.up HB7.out); have Q0 := Lib.hid (cell_up Q0.out HB7.out); have Q1 := Lib.hid (cell_up Q1.out HB7.out))
    | (go_at_call 34; (with_reducible refine (ts_t p F2 _ (stI HV5.out.i0)).mono ?_); rintro e w6 ⟨A6, cap6, rfl, hr, hb⟩; have HB6 := Lib.hid hb; have RT := Lib.hid hr; have RH := Lib.hid (RH.out.up HB6.out); have Q0 := Lib.hid (cell_up Q0.out HB6.out); have Q1 := Lib.hid (cell_up Q1.out HB6.out); clear hr; have HV6 := Lib.hid (HV5.out.up hb); clear hb)
    | (go_at_call 31; (with_reducible refine (ts_h p F2 _ (stI HV4.out.i0)).mono ?_); rintro e w5 ⟨A5, cap5, rfl, hr, hb⟩; have HB5 := Lib.hid hb; have RH := Lib.hid hr; have Q0 := Lib.hid (cell_up Q0.out HB5.out); have Q1 := Lib.hid (cell_up Q1.out HB5.out); clear hr; have HV5 := Lib.hid (HV4.out.up hb); clear hb)
    | (go_at_call 28; (with_reducible refine (ts_q p F2 _ (stI HV3.out.i0)).mono ?_); rintro e w4 ⟨g4, cap4, rfl, hq0, hq1, hb⟩; have Q0 := Lib.hid hq0; have Q1 := Lib.hid hq1; clear hq0 hq1; have HV4 := Lib.hid (HV3.out.up hb); clear hb)
    | (go_at_call 15; (with_reducible refine (hu_any p F1 _ _ _ _ _ _ (stI HV2.out.i0) (by decide) (by decide) (by decide) (by decide) sH_2).mono ?_); rintro e w3 ⟨rfl, F2, h1, h2, h3⟩; have HV3 := Lib.hid (HV2.out.turn_0 (stT p F2 lH (stsOf lH [(1, 5), (2, 3)])) h1 h2 h3); clear h1 h2 h3)
    | (go_at_call 15; (with_reducible refine (hu_any p F _ _ _ _ _ _ (stI HV1.out.i0) (by decide) (by decide) (by decide) (by decide) sH_1).mono ?_); rintro e w2 ⟨rfl, F1, h1, h2, h3⟩; have HV2 := Lib.hid (HV1.out.turn_0 (stT p F1 lH (stsOf lH [(1, 5)])) h1 h2 h3); clear h1 h2 h3)
    | (go_at_call 13; (with_reducible refine (hn_1 _).mono ?_); rintro e w1 ⟨p, F, rfl, h1, h2, hb⟩; have HV1 := Lib.hid (HV0.out.push (stT p F lH (stsOf lH [])) hb h1 h2); clear h1 h2 hb))
  have y0 := Q0.out
  have y1 := Q1.out
  go_wp2_with (first
    | (go_at_call 33; (with_reducible refine (Grd.rsame_any _ _ 2 2 _ _ [5, 3] [5, 3] _ (RH.out.up (Lw.below_alloc (Below.refl _ _) _)) (lit2 _ .i64 5 3 _) rfl rfl (by decide) (by decide)).mono ?_); rintro e w8 ⟨rfl, hb⟩; have HB8 := Lib.hid ((Lw.below_alloc (Below.refl _ _) _).trans (hb.mono (Lw.below_alloc (Below.refl _ _) _).size)); have RT8 := Lib.hid (RT.out.up HB8.out); have HV8 := Lib.hid (HV7.out.up HB8.out); clear hb; obtain ⟨a, g, o, hA, ha, c0⟩ := RT8.out.at (i := 0) rfl rfl; have x0 := c0 0 _ rfl; have x1 := c0 1 _ rfl; have x2 := c0 2 _ rfl; simp only [Nat.add_zero] at x0; have ha0 : a.add 0 = ⟨g, o, none⟩ := ha; subst hA; clear c0 ha))
  go_ret
  exact ⟨ret_bs (by first | rfl | (simp [*]; done)), HV8.out.below⟩
end Go.Proofs.YtkflggojiiebeaaGreat.Smr

