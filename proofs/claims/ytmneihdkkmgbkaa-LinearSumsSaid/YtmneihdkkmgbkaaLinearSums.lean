/- The statement LinearSums of layer 8 holds. Printed by wip/gen/linlaws2.py. -/
import Derived.Test.YtmneihdkkmgbkaaLinPlay
import Derived.Test.YtmneihdkkmgbkaaLaw
import Derived.Deep.LoopGhost
import Derived.Deep.RegionHeld3
import Derived.Deep.QuietTactic
import Derived.BigQuiet
namespace Go.Proofs.Ytmneihdkkmgbkaa.Lin
open Go Go.RowKit Lw Grd
set_option linter.unusedVariables false
set_option linter.unusedSimpArgs false
set_option maxRecDepth 100000 in
set_option maxHeartbeats 4000000 in
theorem sums_law (rows width : Int) (A : Option Addr) (n0 c0 : Nat) (qs : List StepV) (w : World) (hq : Steps w A n0 c0 qs) :
    Calls Try.prog 4 #[.agg #[.int .i64 rows, .int .i64 width, .slice A n0 c0]] w fun e w' => e = .returned (.bool true) ∧ Below w.heap.size w w' := by
  obtain ⟨m, hm⟩ : ∃ m, rowsOf rows = m := ⟨_, rfl⟩
  obtain ⟨n, hn⟩ : ∃ n, widthOf width = n := ⟨_, rfl⟩
  have hmb := rows_bd rows
  have hnb := width_bd width
  rw [hm] at hmb
  rw [hn] at hnb
  have HQ := Lib.hid hq
  have HBX : Hid (Have w (w.alloc (.cells #[.int .i64 rows, .int .i64 width, .slice A n0 c0] 45)) [boxT w.heap.size 45 #[.int .i64 rows, .int .i64 width, .slice A n0 c0]]) := Lib.hid (box_new w _ _)
  obtain ⟨ops, hops⟩ : ∃ ops, opsOf false false m n qs = ops := ⟨_, rfl⟩
  have HOK : Hid (OpsOk m n 1099511627776 ops) := Lib.hid (by rw [← hops]; exact ops_ok false false qs hmb.1 hnb.1)
  have HOG : Hid (∀ (k : Nat) (q : StepV), k < 60 → qs[k]? = some q → ops[k]? = some (cutOf q.zs m n, Int.tmod q.d 1099511627776)) := Lib.hid (fun k q hk hq2 => by
    have h := ops_get false false m n qs rfl (k := k) (q := q) (by have := (List.getElem?_eq_some_iff.1 hq2).1; omega) (by unfold idx; rw [if_neg (by decide)]; exact hq2)
    rw [hops] at h
    rw [h]
    unfold dv
    rw [if_neg (by decide)])
  have HOL : Hid (ops.length = min 60 n0) := Lib.hid (by rw [← hops, ops_len, hq.len])
  obtain ⟨L, hL⟩ : ∃ L, chAll (zerosL m n) ops = L := ⟨_, rfl⟩
  have HAT : Hid (∀ (r c : Nat), r < m → c < n → at2 L (r : Int) (c : Int) = hit ops r c) := Lib.hid (fun r c hr hc => by
    rw [at2_cel, ← hL, chAll_cel hr hc (sz_zeros m n) HOK.out, cel_zeros]
    omega)
  have D1 := Lib.hid (fun w hq => done_ff rows width A n0 c0 qs m n w hm hn hq)
  rw [hops, hL] at D1
  have CS := Lib.hid (fun w => sized_any rows width A n0 c0 w)
  rw [hm, hn] at CS
  clear hm hn hL hops
  go_enter Try.func4, Try.ntmps4
  go_wp2_with (first
    | (go_at_call 24; (with_reducible refine (D1.out _ (HQ.out.up HBW1.out)).mono ?_); rintro e w2 ⟨p, F1, hdr1, R1, rfl, hv, hR⟩; have HV2 := Lib.hid (HV1.out.join hv); simp only [List.cons_append, List.nil_append] at HV2; have HBW2 := Lib.hid HV2.out.below; have HR := Lib.hid hR; clear hv hR k0 k1 k2)
    | (go_at_call 23; (with_reducible refine (CS.out _).mono ?_); rintro e wz ⟨rfl, hb⟩; have HV1' := Lib.hid (HV1.out.up hb); clear HV1 HBW1; have HV1 := Lib.hid HV1'.out; clear HV1'; have HBW1 := Lib.hid HV1.out.below; clear k0 k1 k2; obtain ⟨k0, k1, k2⟩ := box3 HV1.out.1; clear hb)
    | (go_at_call 9; (with_reducible refine (shown_any _).mono ?_); rintro e w1 ⟨rfl, hb⟩; have HV1 := Lib.hid (HBX.out.up hb); have HBW1 := Lib.hid HV1.out.below; obtain ⟨k0, k1, k2⟩ := box3 HV1.out.1; clear hb))
  have HRL := rows_len HR.out
  rw [HQ.out.len] at HRL
  obtain ⟨Ah, ch, hh1, hh2, hh3, hh4, -⟩ := (rr_of HV2.out).hd
  subst hh1
  obtain ⟨N, hN⟩ : ∃ N, R1.length = N := ⟨_, rfl⟩
  rw [hN] at HRL hh2 HV2
  simp only [hN]
  unfold maxLen at hh3
  have hN60 : N ≤ 60 := by omega
  have hNn : N ≤ n0 := by omega
  have HHN := Lib.hid hh4
  have HRN := Lib.hid HRL
  clear hh4 hN HRL
  go_loopw [8] (fun rv wr => ∃ (r : Nat), r ≤ m ∧ rv = .int .i64 r ∧ Have w wr [pgT p F1 m n L, rrT wz.heap.size 28 (.slice Ah N ch) R1, boxT w.heap.size 45 #[.int .i64 rows, .int .i64 width, .slice A n0 c0]]) (fun rv _ => m - (intOf rv).toNat)
  case atStart => exact ⟨0, Nat.zero_le _, rfl, HV2.out⟩
  case round =>
    obtain ⟨wo, rfl⟩ : ∃ wo, wo = wr := ⟨_, rfl⟩
    obtain ⟨r, hr, rfl, hv1⟩ := hrel
    have HVo := Lib.hid hv1
    clear hv1
    by_cases hrm : r < m
    · go_wp2
      go_loopw [9] (fun cv wr => ∃ (c : Nat), c ≤ n ∧ cv = .int .i64 c ∧ Have w wr [pgT p F1 m n L, rrT wz.heap.size 28 (.slice Ah N ch) R1, boxT w.heap.size 45 #[.int .i64 rows, .int .i64 width, .slice A n0 c0]]) (fun cv _ => n - (intOf cv).toNat)
      case atStart => exact ⟨0, Nat.zero_le _, rfl, HVo.out⟩
      case round =>
        obtain ⟨c, hc, rfl, hv2⟩ := hrel
        have HVi := Lib.hid hv2
        clear hv2
        have HBi := Lib.hid HVi.out.below
        by_cases hcn : c < n
        · obtain ⟨kb0, kb1, kb2⟩ := box3 HVi.out.2.2.2.2.2.2.1
          have HQi := Lib.hid (HQ.out.up HBi.out)
          have HRi := Lib.hid (rr_of HVi.out)
          go_wp2
          go_loop [10, 11] (fun sv iv => ∃ (j : Nat), j ≤ N ∧ iv = .int .i64 j ∧ sv = .int .i64 (hit (ops.take j) r c)) (fun _ iv => N - (intOf iv).toNat)
          case atStart => exact ⟨0, Nat.zero_le _, rfl, rfl⟩
          case round =>
            obtain ⟨j, hj, rfl, rfl⟩ := hrel
            have hbd := hit_bd (r := r) (c := c) (b := 1099511627776) (by omega) (opsok_take HOK.out j)
            have hjl : (ops.take j).length ≤ j := by rw [List.length_take]; omega
            obtain ⟨S, hS⟩ : ∃ S, hit (ops.take j) r c = S := ⟨_, rfl⟩
            rw [hS] at hbd ⊢
            have hbd1 : -65970697666560 ≤ S ∧ S ≤ 65970697666560 := by omega
            clear hbd hjl
            by_cases hjn : j < N
            · obtain ⟨q, hq1⟩ : ∃ q, qs[j]? = some q := ⟨_, List.getElem?_eq_getElem (by rw [HQ.out.len]; omega)⟩
              have ho := HOG.out j q (by omega) hq1
              have HNX := Lib.hid (hit_next (r := r) (c := c) ho)
              rw [hS] at HNX
              obtain ⟨ad, gad, cap, rfl, cA, hcap1, hcap2, hrd⟩ := row_at HRi.out HR.out (by omega) hq1
              unfold maxLen at hcap2
              obtain ⟨v, hv, hvn⟩ := cut_get q.zs hrm hnb.1
              have cB := hrd.at hv
              simp only at HNX
              rw [hv] at HNX
              obtain ⟨a, g, o, rfl, hadd, c1, c2, hin⟩ := HQi.out.at hq1
              have b1 := hin.db
              have tb1 := tmod_bd q.d
              clear ho hS hq1 hrd hv hin
              by_cases he : v = c
              · subst he
                have HNX2 : Hid (hit (ops.take (j + 1)) r v = S + Int.tmod q.d 1099511627776) := Lib.hid (by rw [HNX.out, if_pos rfl])
                clear HNX
                go_wp2_with (go_at_call 25; (with_reducible refine (small_any q.d _ b1.1 b1.2).mono ?_); rintro e w' ⟨rfl, rfl⟩)
                go_round
                case rel => exact ⟨j + 1, by omega, by go_num, by rw [HNX2.out]⟩
                case measure => simp [intOf]; omega
              · have HNX2 : Hid (hit (ops.take (j + 1)) r c = S) := Lib.hid (by rw [HNX.out, if_neg (by simp; omega)]; omega)
                have hvc : ((v : Int) == (c : Int)) = false := by simp; omega
                clear HNX
                go_wp2
                go_round
                case rel => exact ⟨j + 1, by omega, by go_num, by rw [HNX2.out]⟩
                case measure => simp [intOf]; omega
            · have e : j = N := by omega
              have e1 : ops.take j = ops := List.take_of_length_le (by rw [HOL.out]; have := HRN.out; omega)
              rw [e1] at hS
              have HAS := Lib.hid (HAT.out r c hrm hcn)
              rw [hS] at HAS
              clear hS e1
              subst e
              go_wp2_with (go_at_call 26; (with_reducible refine (at_any p F1 m n L (r : Int) (c : Int) _ (pg0 HVi.out) (by omega) (by omega) (by omega) (by omega)).mono ?_); rintro e w5 ⟨he5, hb5⟩; rw [HAS.out] at he5; subst he5; have HV5 := Lib.hid (HVi.out.up hb5); clear hb5)
              go_roundw
              case rel => exact ⟨c + 1, by omega, by go_num, HV5.out⟩
              case measure => simp [intOf]; omega
        · have e : c = n := by omega
          subst e
          go_wp2
          go_roundw
          case rel => exact ⟨r + 1, by omega, by go_num, HVi.out⟩
          case measure => simp [intOf]; omega
    · have e : r = m := by omega
      subst e
      have HBo := Lib.hid HVo.out.below
      go_wp2
      go_ret
      exact ⟨rfl, HBo.out⟩
namespace linearSums
open Go.ChangeShapes Go.WideShapes Go.ChangeAt Go.Joins
set_option maxRecDepth 100000 in
theorem lifted (os : Os) (started : os.Started) (H : Type) (enc : TypeId × Value → H) :
    ReturnsInHanded {} Try.checked os 4 .any (Rows.linearSumsSpec.pre6 enc Try.prog Try.f4 Rows.linearSumsRow.domain false) (Rows.linearSumsSpec.post enc Try.prog Try.f4 false true false false) := by
  refine Lw.lifted (C := Try.checked) (B := 4) (by kernel_rfl) os started (by kernel_rfl) Try.func4
    (ChangeSpec.witness6 (enc := enc) (C := Try.checked) false ⟨#[], #[.agg #[.int .i64 0, .int .i64 0, .slice none 0 0]], []⟩ 8 (by kernel_rfl) (by kernel_rfl) (by kernel_rfl) (by kernel_rfl)) rfl Try.underlying4 (by kernel_rfl) (by kernel_rfl) (by kernel_rfl) ?_ ?_
  · intro ds h
    rw [Try.params4] at h
    match ds, h with
    | [_], _ => rfl
  · intro W base args ds p hval hA
    rw [Try.params4] at hA hval
    obtain ⟨v0, vs0, d0, ds0, p0, q0, hargs, rfl, rfl, h0, r0⟩ := trodAll_cons hA
    obtain ⟨rfl, rfl, rfl⟩ := trodAll_nil r0
    obtain rfl : args = #[v0] := by cases args; simp_all
    obtain ⟨y0, u0, A0, n0, c0, qs0, rfl, rb0, ub0, hq0⟩ := open_play (hval 0 45 v0 rfl rfl) h0
    exact sums_law y0 u0 A0 n0 c0 qs0 W hq0
theorem over : Rows.linearSumsRow.holds Try.pinned (OpenSpec.ofChange Rows.linearSumsSpec) :=
  OpenClaim.holds_of_wide 4 Try.f4 rfl rfl rfl rfl rfl rfl rfl ⟨rfl, rfl, rfl, rfl, rfl⟩ rfl rfl rfl rfl rfl (by kernel_rfl) Try.func4 (by kernel_rfl)
    (of_decide_eq_true (by kernel_rfl)) (by unfold Func.isWrapper; first | (rw [if_pos (by decide +kernel)]; kernel_rfl) | (rw [if_neg (by decide +kernel)]; exact ⟨rfl, rfl⟩))
    (fun os started H enc _ => lifted os started H enc)
theorem proved : Rows.LinearSumsSaid :=
  over
#print axioms proved
end linearSums
end Go.Proofs.Ytmneihdkkmgbkaa.Lin
