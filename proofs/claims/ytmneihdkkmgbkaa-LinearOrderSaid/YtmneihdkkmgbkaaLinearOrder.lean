/- The statement LinearOrder of layer 8 holds. Printed by wip/gen/linlaws2.py. -/
import Derived.Test.YtmneihdkkmgbkaaLinPlay
import Derived.Test.YtmneihdkkmgbkaaLaw
import Derived.Deep.LoopGhost
import Derived.Deep.RegionHeld3
import Derived.Deep.QuietTactic
import Derived.BigQuiet
namespace Go.Proofs.Ytmneihdkkmgbkaa.Lin
open Go Go.RowKit Lw Grd
set_option linter.unusedVariables false
set_option linter.unusedSimpArgs false
set_option maxRecDepth 100000 in
set_option maxHeartbeats 4000000 in
theorem order_law (rows width : Int) (A : Option Addr) (n0 c0 : Nat) (qs : List StepV) (w : World) (hq : Steps w A n0 c0 qs) :
    Calls Try.prog 5 #[.agg #[.int .i64 rows, .int .i64 width, .slice A n0 c0]] w fun e w' => e = .returned (.bool true) ∧ Below w.heap.size w w' := by
  obtain ⟨m, hm⟩ : ∃ m, rowsOf rows = m := ⟨_, rfl⟩
  obtain ⟨n, hn⟩ : ∃ n, widthOf width = n := ⟨_, rfl⟩
  have hmb := rows_bd rows
  have hnb := width_bd width
  rw [hm] at hmb
  rw [hn] at hnb
  have HQ := Lib.hid hq
  have HBX : Hid (Have w (w.alloc (.cells #[.int .i64 rows, .int .i64 width, .slice A n0 c0] 45)) [boxT w.heap.size 45 #[.int .i64 rows, .int .i64 width, .slice A n0 c0]]) := Lib.hid (box_new w _ _)
  obtain ⟨L, hL⟩ : ∃ L, chAll (zerosL m n) (opsOf false false m n qs) = L := ⟨_, rfl⟩
  have hL2 : chAll (zerosL m n) (opsOf true false m n qs) = L := by rw [ops_turned, chAll_rev (ops_ok false false qs hmb.1 hnb.1), hL]
  have D1 := Lib.hid (fun w hq => done_ff rows width A n0 c0 qs m n w hm hn hq)
  have D2 := Lib.hid (fun w hq => done_tf rows width A n0 c0 qs m n w hm hn hq)
  rw [hL] at D1
  rw [hL2] at D2
  obtain ⟨q, hmn⟩ : ∃ q, m * n = q := ⟨_, rfl⟩
  have hq1 : q ≤ 45 := by rw [← hmn]; exact Nat.le_trans (Nat.mul_le_mul hmb.2 hnb.2) (by decide)
  have HMN := Lib.hid hmn
  clear hm hn hL hL2 hmn
  go_enter Try.func5, Try.ntmps5
  go_wp2_with (first
    | (go_at_call 20; (with_reducible refine (same_yes A4 A5 q cap4 cap5 L.flatten _ R45.out R5.out HF.out (by omega)).mono ?_); rintro e w6 ⟨rfl, hb⟩; have HBW6 := Lib.hid (below_call HBW5.out hb (Nat.le_refl _)); clear hb)
    | (go_at_call 21; (with_reducible refine (cells_q p2 F2 m n q L _ G3.out HMN.out).mono ?_); rintro e w5 ⟨A5, cap5, rfl, hr5, hc5, hd5, hn5, hb⟩; have R5 := Lib.hid hr5.rd; have R45 := Lib.hid (R4.out.up hb); have HBW5 := Lib.hid (below_call HBW4.out hb (Nat.le_refl _)); clear hr5 hb hn5)
    | (go_at_call 21; (with_reducible refine (cells_q p F1 m n q L _ G1.out HMN.out).mono ?_); rintro e w4 ⟨A4, cap4, rfl, hr4, hc4, hd4, hn4, hb⟩; have R4 := Lib.hid hr4.rd; have HBW4 := Lib.hid (below_call HBW3.out hb (Nat.le_refl _)); have G3 := Lib.hid (pg_up G2.out hb); have HF := Lib.hid ((flat_dims G2.out.dims).trans HMN.out); clear hr4 hb hn4)
    | (go_at_call 24; (with_reducible refine (D2.out _ (HQ.out.up HBW2.out)).mono ?_); rintro e w3 ⟨p2, F2, hdr2, R2, rfl, hv, hR⟩; have HV3 := Lib.hid (HV2.out.join hv); simp only [List.cons_append, List.nil_append] at HV3; have HBW3 := Lib.hid HV3.out.below; have G1 : Hid (PG w3 p F1 m n L) := Lib.hid HV3.out.2.2.2.2.2.2.1; have G2 : Hid (PG w3 p2 F2 m n L) := Lib.hid HV3.out.1; clear hv hR l0 l1 l2)
    | (go_at_call 24; (with_reducible refine (D1.out _ (HQ.out.up HBW1.out)).mono ?_); rintro e w2 ⟨p, F1, hdr1, R1, rfl, hv, hR⟩; have HV2 := Lib.hid (HV1.out.join hv); simp only [List.cons_append, List.nil_append] at HV2; have HBW2 := Lib.hid HV2.out.below; obtain ⟨l0, l1, l2⟩ := box3 HV2.out.2.2.2.2.2.2.1; clear hv hR k0 k1 k2)
    | (go_at_call 9; (with_reducible refine (shown_any _).mono ?_); rintro e w1 ⟨rfl, hb⟩; have HV1 := Lib.hid (HBX.out.up hb); have HBW1 := Lib.hid HV1.out.below; obtain ⟨k0, k1, k2⟩ := box3 HV1.out.1; clear hb))
  go_ret
  exact ⟨rfl, HBW6.out⟩
namespace linearOrder
open Go.ChangeShapes Go.WideShapes Go.ChangeAt Go.Joins
set_option maxRecDepth 100000 in
theorem lifted (os : Os) (started : os.Started) (H : Type) (enc : TypeId × Value → H) :
    ReturnsInHanded {} Try.checked os 5 .any (Rows.linearOrderSpec.pre6 enc Try.prog Try.f5 Rows.linearOrderRow.domain false) (Rows.linearOrderSpec.post enc Try.prog Try.f5 false true false false) := by
  refine Lw.lifted (C := Try.checked) (B := 4) (by kernel_rfl) os started (by kernel_rfl) Try.func5
    (ChangeSpec.witness6 (enc := enc) (C := Try.checked) false ⟨#[], #[.agg #[.int .i64 0, .int .i64 0, .slice none 0 0]], []⟩ 8 (by kernel_rfl) (by kernel_rfl) (by kernel_rfl) (by kernel_rfl)) rfl Try.underlying4 (by kernel_rfl) (by kernel_rfl) (by kernel_rfl) ?_ ?_
  · intro ds h
    rw [Try.params5] at h
    match ds, h with
    | [_], _ => rfl
  · intro W base args ds p hval hA
    rw [Try.params5] at hA hval
    obtain ⟨v0, vs0, d0, ds0, p0, q0, hargs, rfl, rfl, h0, r0⟩ := trodAll_cons hA
    obtain ⟨rfl, rfl, rfl⟩ := trodAll_nil r0
    obtain rfl : args = #[v0] := by cases args; simp_all
    obtain ⟨y0, u0, A0, n0, c0, qs0, rfl, rb0, ub0, hq0⟩ := open_play (hval 0 45 v0 rfl rfl) h0
    exact order_law y0 u0 A0 n0 c0 qs0 W hq0
theorem over : Rows.linearOrderRow.holds Try.pinned (OpenSpec.ofChange Rows.linearOrderSpec) :=
  OpenClaim.holds_of_wide 5 Try.f5 rfl rfl rfl rfl rfl rfl rfl ⟨rfl, rfl, rfl, rfl, rfl⟩ rfl rfl rfl rfl rfl (by kernel_rfl) Try.func5 (by kernel_rfl)
    (of_decide_eq_true (by kernel_rfl)) (by unfold Func.isWrapper; first | (rw [if_pos (by decide +kernel)]; kernel_rfl) | (rw [if_neg (by decide +kernel)]; exact ⟨rfl, rfl⟩))
    (fun os started H enc _ => lifted os started H enc)
theorem proved : Rows.LinearOrderSaid :=
  over
#print axioms proved
end linearOrder
end Go.Proofs.Ytmneihdkkmgbkaa.Lin
