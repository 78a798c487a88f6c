/- The statement PiecesSpan of layer 14 holds: the keys of a piece, and its halves, are what the document says. Printed by wip/gen/pcslaws.py. -/
import Derived.Test.YtdhljlhecoclfaaPcsLawA
import Derived.Deep.LoopGhost
import Derived.Deep.RegionHeld3
import Derived.Deep.DeepCutAuto
import Derived.Deep.QuietTactic
import Derived.BigQuiet
namespace Go.Proofs.Ytdhljlhecoclfaa.Pcs
open Go Go.RowKit Lw
set_option linter.unusedVariables false
set_option linter.unusedSimpArgs false
theorem open_pc_c : Try.prog.cellsOf 30 = 2 := by kernel_rfl
set_option maxRecDepth 100000 in
theorem open_pc {H : Type} {enc : TypeId × Value → H} {w : World} {v : Value} {d : DataW H} {p : List MemPlace} {base : Nat} (hv : Value.okWide Try.prog w .any base 30 v)
    (h : DataW.Trod enc Try.prog w 0 (fun _ => true) true 30 v d p) :
    ∃ (x0 : Int) (x1 : Int), v = .agg #[.int .i64 x0, .int .u64 x1] ∧ (-9223372036854775808 ≤ x0 ∧ x0 ≤ 9223372036854775807) ∧ (0 ≤ x1 ∧ x1 ≤ 18446744073709551615) := by
  have hcs : ∃ cs : Array Value, v = .agg cs ∧ cs.size = Try.prog.cellsOf 30 := by
    simp only [Value.okWide, Try.underlying30] at hv
    obtain ⟨cs, h1, h2, _⟩ := hv
    exact ⟨cs, h1, h2⟩
  obtain ⟨⟨l⟩, rfl, hsz⟩ := hcs
  rw [open_pc_c] at hsz
  obtain ⟨fuel, hf0⟩ := h
  obtain ⟨xs, k, _, _, _, hxl, hf⟩ := DataW.trod_struct Try.underlying30 hf0
  match xs, hxl, l, hsz with
  | [y0, y1], _, [v0, v1], _ =>
    have g0 := hf 0 _ rfl
    have g1 := hf 1 _ rfl
    simp [Value.cells, show Try.prog.cellsOf 3 = 1 from by kernel_rfl, show Try.prog.cellsOf 22 = 1 from by kernel_rfl] at g0 g1
    obtain ⟨x0, f0, _, w0⟩ := DataW.trod_int (show Try.prog.underlying 3 = some (.int .i64) by kernel_rfl) g0
    simp at f0
    subst f0
    obtain ⟨x1, f1, _, w1⟩ := DataW.trod_int (show Try.prog.underlying 22 = some (.int .u64) by kernel_rfl) g1
    simp at f1
    subst f1
    exact ⟨x0, x1, rfl, Lw.wf_i64 w0, Lw.wf_u64 w1⟩
theorem half_at {b c i : Int} (h : isP b c i = true) (hc : 0 < c) (i0 : 0 ≤ i) :
    isP b (c - 1) (2 * i) = true ∧ isP b (c - 1) (2 * i + 1) = true ∧ spLo b (c - 1) (2 * i) = spLo b c i ∧ spHi b (c - 1) (2 * i) + 1 = spLo b (c - 1) (2 * i + 1) ∧ spHi b (c - 1) (2 * i + 1) = spHi b c i := by
  obtain ⟨h1, h2, h3, h4, h5⟩ := of_decide_eq_true h
  have e1 : (b - (c - 1)).toNat = (b - c).toNat + 1 := by omega
  have hn := p2_next (b - c).toNat
  have k1 : isP b (c - 1) (2 * i) = true := decide_eq_true ⟨h1, h2, by omega, by omega, by rw [e1]; omega⟩
  have k2 : isP b (c - 1) (2 * i + 1) = true := decide_eq_true ⟨h1, h2, by omega, by omega, by rw [e1]; omega⟩
  have e2 : c.toNat = (c - 1).toNat + 1 := by omega
  have hm := p2_next (c - 1).toNat
  have e3 : i * p2 c.toNat = 2 * i * p2 (c - 1).toNat := by
    rw [e2, ← hm, Int.mul_add, Int.mul_assoc, Int.two_mul]
  have e4 : (2 * i + 1) * p2 (c - 1).toNat = 2 * i * p2 (c - 1).toNat + p2 (c - 1).toNat := by rw [Int.add_mul, Int.one_mul]
  have e5 : p2 c.toNat = p2 (c - 1).toNat + p2 (c - 1).toNat := by rw [e2, hm]
  unfold spLo spHi
  rw [if_pos h, if_pos h, if_pos k1, if_pos k1, if_pos k2, if_pos k2, e3, e4, e5]
  refine ⟨k1, k2, rfl, by omega, by omega⟩
set_option maxRecDepth 100000 in
set_option maxHeartbeats 4000000 in
theorem span_no (b c i : Int) (w : World) (b0 : -9223372036854775808 ≤ b ∧ b ≤ 9223372036854775807) (c0 : -9223372036854775808 ≤ c ∧ c ≤ 9223372036854775807) (i0 : 0 ≤ i ∧ i ≤ 18446744073709551615) (hh : isP b c i = false) :
    Calls Try.prog 4 #[.int .i64 b, .agg #[.int .i64 c, .int .u64 i]] w fun e w' => e = .returned (.bool true) ∧ Below w.heap.size w w' := by
  have CS := Lib.hid (fun w => cspan_any b c i w b0.1 b0.2 c0.1 c0.2 i0.1 i0.2)
  have DS := Lib.hid (fun w => rspan_any b c i w b0.1 b0.2 c0.1 c0.2 i0.1 i0.2)
  have CH := Lib.hid (fun w => chalves_any b c i w b0.1 b0.2 c0.1 c0.2 i0.1 i0.2)
  have hB : haB b c i = false := by unfold haB; rw [hh]; rfl
  have hL : haL b c i = 0 ∧ haX b c i = 0 ∧ haY b c i = 0 := by
    unfold haL haX haY
    rw [hB]
    exact ⟨rfl, rfl, rfl⟩
  rw [hh] at CS DS
  rw [hB, hL.1, hL.2.1, hL.2.2] at CH
  obtain ⟨SL, hSL⟩ : ∃ v, spLo b c i = v := ⟨_, rfl⟩
  obtain ⟨SH, hSH⟩ : ∃ v, spHi b c i = v := ⟨_, rfl⟩
  rw [hSL, hSH] at CS DS
  skip
  have HBX : Hid (Have w (w.alloc (.cells #[.int .i64 c, .int .u64 i] 30)) [boxT w.heap.size 30 #[.int .i64 c, .int .u64 i]]) := Lib.hid (box_new w _ _)
  clear hh hB hL hSL hSH b0 c0 i0
  go_enter Try.func4, Try.ntmps4
  go_wp2_with (first
    | (go_at_call 15; (with_reducible refine (CH.out _).mono ?_); rintro e w4 ⟨rfl, hb⟩; have HV4 := Lib.hid (((HV3.out.up hb).push (boxT w4.heap.size 30 #[.int .i64 (0), .int .u64 (0)]) (Lw.below_alloc (Below.refl _ _) _) (heap_alloc_new w4 _) (fun k hk => Nat.le_of_eq hk.symm)).push (boxT (w4.heap.size + 1) 30 #[.int .i64 (0), .int .u64 (0)]) (Lw.below_alloc (Below.refl _ _) _) (by have h := heap_alloc_new (w4.alloc (.cells #[.int .i64 (0), .int .u64 (0)] 30)) (.cells #[.int .i64 (0), .int .u64 (0)] 30); rw [World.size_alloc] at h; exact h) (fun k hk => by rw [World.size_alloc]; exact Nat.le_of_eq hk.symm)); clear hb; obtain ⟨y0, y1⟩ := box2p HV4.out.i0; obtain ⟨x0, x1⟩ := box2p HV4.out.i1; clear q0 q1; obtain ⟨q0, q1⟩ := box2p HV4.out.i2)
    | (go_at_call 14; (with_reducible refine (DS.out _).mono ?_); rintro e w3 ⟨rfl, hb⟩; have HV3 := Lib.hid (HV2.out.up hb); clear hb; clear q0 q1; obtain ⟨q0, q1⟩ := box2p HV3.out.i0)
    | (go_at_call 13; (with_reducible refine (CS.out _).mono ?_); rintro e w2 ⟨rfl, hb⟩; have HV2 := Lib.hid (HV1.out.up hb); clear hb; clear q0 q1; obtain ⟨q0, q1⟩ := box2p HV2.out.i0)
    | (go_at_call 9; (with_reducible refine (shown_any _).mono ?_); rintro e w1 ⟨rfl, hb⟩; have HV1 := Lib.hid (HBX.out.up hb); obtain ⟨q0, q1⟩ := box2p HV1.out.i0; clear hb))
  go_ret
  exact ⟨ret_b (by first | rfl | (simp [*]; done)), HV4.out.below⟩
set_option maxRecDepth 100000 in
set_option maxHeartbeats 4000000 in
theorem span_zero (b c i : Int) (w : World) (b0 : -9223372036854775808 ≤ b ∧ b ≤ 9223372036854775807) (c0 : -9223372036854775808 ≤ c ∧ c ≤ 9223372036854775807) (i0 : 0 ≤ i ∧ i ≤ 18446744073709551615) (hh : isP b c i = true) (hc : ¬ 0 < c) :
    Calls Try.prog 4 #[.int .i64 b, .agg #[.int .i64 c, .int .u64 i]] w fun e w' => e = .returned (.bool true) ∧ Below w.heap.size w w' := by
  have CS := Lib.hid (fun w => cspan_any b c i w b0.1 b0.2 c0.1 c0.2 i0.1 i0.2)
  have DS := Lib.hid (fun w => rspan_any b c i w b0.1 b0.2 c0.1 c0.2 i0.1 i0.2)
  have CH := Lib.hid (fun w => chalves_any b c i w b0.1 b0.2 c0.1 c0.2 i0.1 i0.2)
  have hB : haB b c i = false := by unfold haB; rw [hh]; rw [decide_eq_false hc]; rfl
  have hL : haL b c i = 0 ∧ haX b c i = 0 ∧ haY b c i = 0 := by
    unfold haL haX haY
    rw [hB]
    exact ⟨rfl, rfl, rfl⟩
  rw [hh] at CS DS
  rw [hB, hL.1, hL.2.1, hL.2.2] at CH
  obtain ⟨SL, hSL⟩ : ∃ v, spLo b c i = v := ⟨_, rfl⟩
  obtain ⟨SH, hSH⟩ : ∃ v, spHi b c i = v := ⟨_, rfl⟩
  rw [hSL, hSH] at CS DS
  have hcp : decide (0 < c) = false := decide_eq_false hc
  have HBX : Hid (Have w (w.alloc (.cells #[.int .i64 c, .int .u64 i] 30)) [boxT w.heap.size 30 #[.int .i64 c, .int .u64 i]]) := Lib.hid (box_new w _ _)
  clear hh hB hL hSL hSH b0 c0 i0
  go_enter Try.func4, Try.ntmps4
  go_wp2_with (first
    | (go_at_call 15; (with_reducible refine (CH.out _).mono ?_); rintro e w4 ⟨rfl, hb⟩; have HV4 := Lib.hid (((HV3.out.up hb).push (boxT w4.heap.size 30 #[.int .i64 (0), .int .u64 (0)]) (Lw.below_alloc (Below.refl _ _) _) (heap_alloc_new w4 _) (fun k hk => Nat.le_of_eq hk.symm)).push (boxT (w4.heap.size + 1) 30 #[.int .i64 (0), .int .u64 (0)]) (Lw.below_alloc (Below.refl _ _) _) (by have h := heap_alloc_new (w4.alloc (.cells #[.int .i64 (0), .int .u64 (0)] 30)) (.cells #[.int .i64 (0), .int .u64 (0)] 30); rw [World.size_alloc] at h; exact h) (fun k hk => by rw [World.size_alloc]; exact Nat.le_of_eq hk.symm)); clear hb; obtain ⟨y0, y1⟩ := box2p HV4.out.i0; obtain ⟨x0, x1⟩ := box2p HV4.out.i1; clear q0 q1; obtain ⟨q0, q1⟩ := box2p HV4.out.i2)
    | (go_at_call 14; (with_reducible refine (DS.out _).mono ?_); rintro e w3 ⟨rfl, hb⟩; have HV3 := Lib.hid (HV2.out.up hb); clear hb; clear q0 q1; obtain ⟨q0, q1⟩ := box2p HV3.out.i0)
    | (go_at_call 13; (with_reducible refine (CS.out _).mono ?_); rintro e w2 ⟨rfl, hb⟩; have HV2 := Lib.hid (HV1.out.up hb); clear hb; clear q0 q1; obtain ⟨q0, q1⟩ := box2p HV2.out.i0)
    | (go_at_call 9; (with_reducible refine (shown_any _).mono ?_); rintro e w1 ⟨rfl, hb⟩; have HV1 := Lib.hid (HBX.out.up hb); obtain ⟨q0, q1⟩ := box2p HV1.out.i0; clear hb))
  go_ret
  exact ⟨ret_b (by first | rfl | (simp [*]; done)), HV4.out.below⟩
set_option maxRecDepth 100000 in
set_option maxHeartbeats 4000000 in
theorem span_yes (b c i : Int) (w : World) (b0 : -9223372036854775808 ≤ b ∧ b ≤ 9223372036854775807) (c0 : -9223372036854775808 ≤ c ∧ c ≤ 9223372036854775807) (i0 : 0 ≤ i ∧ i ≤ 18446744073709551615) (hh : isP b c i = true) (hc : 0 < c) :
    Calls Try.prog 4 #[.int .i64 b, .agg #[.int .i64 c, .int .u64 i]] w fun e w' => e = .returned (.bool true) ∧ Below w.heap.size w w' := by
  obtain ⟨t1, t2, t3, t4, t5⟩ := half_at hh hc i0.1
  have hbd := isP_bd hh i0.1
  have hbe := isP_bd t1 (by omega)
  have hbf := isP_bd t2 (by omega)
  have h60 := p2_bd (show b.toNat ≤ 60 by omega)
  have hpc := p2_pos c.toNat
  have hpd := p2_pos (c - 1).toNat
  have CS := Lib.hid (fun w => cspan_any b c i w b0.1 b0.2 c0.1 c0.2 i0.1 i0.2)
  have DS := Lib.hid (fun w => rspan_any b c i w b0.1 b0.2 c0.1 c0.2 i0.1 i0.2)
  have CH := Lib.hid (fun w => chalves_any b c i w b0.1 b0.2 c0.1 c0.2 i0.1 i0.2)
  have hp9 := p2_mono (show (b - c).toNat ≤ 60 by omega)
  rw [p2_60] at hp9
  have DX := Lib.hid (fun w => rspan_any b (c - 1) (2 * i) w b0.1 b0.2 (by omega) (by omega) (by omega) (by omega))
  have DY := Lib.hid (fun w => rspan_any b (c - 1) (2 * i + 1) w b0.1 b0.2 (by omega) (by omega) (by omega) (by omega))
  have hB : haB b c i = true := by unfold haB; rw [hh, decide_eq_true hc]; rfl
  have hL : haL b c i = c - 1 ∧ haX b c i = 2 * i ∧ haY b c i = 2 * i + 1 := by
    unfold haL haX haY
    rw [hB]
    exact ⟨rfl, rfl, rfl⟩
  have hs1 : 0 ≤ spHi b (c - 1) (2 * i) ∧ spHi b (c - 1) (2 * i) ≤ 1152921504606846976 := by
    unfold spHi
    rw [if_pos t1]
    omega
  have wH : IntKind.u64.wrap (spHi b (c - 1) (2 * i) + 1) = spLo b (c - 1) (2 * i + 1) := by rw [← t4]; exact u64_in (by omega) (by omega)
  rw [hh] at CS DS
  rw [t1, t3] at DX
  rw [t2, t5] at DY
  rw [hB, hL.1, hL.2.1, hL.2.2] at CH
  obtain ⟨SL, hSL⟩ : ∃ v, spLo b c i = v := ⟨_, rfl⟩
  obtain ⟨SH, hSH⟩ : ∃ v, spHi b c i = v := ⟨_, rfl⟩
  obtain ⟨SM, hSM⟩ : ∃ v, spHi b (c - 1) (2 * i) = v := ⟨_, rfl⟩
  obtain ⟨SN, hSN⟩ : ∃ v, spLo b (c - 1) (2 * i + 1) = v := ⟨_, rfl⟩
  rw [hSL, hSH] at CS DS
  rw [hSL, hSM] at DX
  rw [hSN, hSH] at DY
  rw [hSM, hSN] at wH
  have wc : wrap64 (c - 1) = c - 1 := IntWalk.wrap64_in _ ⟨by omega, by omega⟩
  have wc2 : IntKind.i64.wrap (c - 1) = c - 1 := IntWalk.i64_in _ ⟨by omega, by omega⟩
  obtain ⟨C1, hC1⟩ : ∃ v, c - 1 = v := ⟨_, rfl⟩
  rw [hC1] at wc wc2 CH DX DY
  have wd : wrap64 (c - 1) = C1 := by rw [hC1]; exact wc
  have wd2 : IntKind.i64.wrap (c - 1) = C1 := by rw [hC1]; exact wc2
  obtain ⟨I2, hI2⟩ : ∃ v, 2 * i = v := ⟨_, rfl⟩
  rw [hI2] at CH DX DY
  obtain ⟨I3, hI3⟩ : ∃ v, I2 + 1 = v := ⟨_, rfl⟩
  rw [hI3] at CH DY
  have hcp : decide (0 < c) = true := decide_eq_true hc
  have HBX : Hid (Have w (w.alloc (.cells #[.int .i64 c, .int .u64 i] 30)) [boxT w.heap.size 30 #[.int .i64 c, .int .u64 i]]) := Lib.hid (box_new w _ _)
  clear hh hB hL hSL hSH hSM hSN hs1 t1 t2 t3 t4 t5 hbd hbe hbf h60 hpc hpd hp9 wc wc2 hC1 hI2 hI3 b0 c0 i0
  go_enter Try.func4, Try.ntmps4
  go_wp2_with (first
    | (go_at_call 14; (with_reducible refine (DY.out _).mono ?_); rintro e w6 ⟨rfl, hb⟩; have HV6 := Lib.hid (HV5.out.up hb); clear hb y0 y1 x0 x1; obtain ⟨y0, y1⟩ := box2p HV6.out.i0; obtain ⟨x0, x1⟩ := box2p HV6.out.i1; clear q0 q1; obtain ⟨q0, q1⟩ := box2p HV6.out.i2)
    | (go_at_call 14; (with_reducible refine (DX.out _).mono ?_); rintro e w5 ⟨rfl, hb⟩; have HV5 := Lib.hid (HV4.out.up hb); clear hb y0 y1 x0 x1; obtain ⟨y0, y1⟩ := box2p HV5.out.i0; obtain ⟨x0, x1⟩ := box2p HV5.out.i1; clear q0 q1; obtain ⟨q0, q1⟩ := box2p HV5.out.i2)
    | (go_at_call 15; (with_reducible refine (CH.out _).mono ?_); rintro e w4 ⟨rfl, hb⟩; have HV4 := Lib.hid (((HV3.out.up hb).push (boxT w4.heap.size 30 #[.int .i64 (C1), .int .u64 (I2)]) (Lw.below_alloc (Below.refl _ _) _) (heap_alloc_new w4 _) (fun k hk => Nat.le_of_eq hk.symm)).push (boxT (w4.heap.size + 1) 30 #[.int .i64 (C1), .int .u64 (I3)]) (Lw.below_alloc (Below.refl _ _) _) (by have h := heap_alloc_new (w4.alloc (.cells #[.int .i64 (C1), .int .u64 (I2)] 30)) (.cells #[.int .i64 (C1), .int .u64 (I3)] 30); rw [World.size_alloc] at h; exact h) (fun k hk => by rw [World.size_alloc]; exact Nat.le_of_eq hk.symm)); clear hb; obtain ⟨y0, y1⟩ := box2p HV4.out.i0; obtain ⟨x0, x1⟩ := box2p HV4.out.i1; clear q0 q1; obtain ⟨q0, q1⟩ := box2p HV4.out.i2)
    | (go_at_call 14; (with_reducible refine (DS.out _).mono ?_); rintro e w3 ⟨rfl, hb⟩; have HV3 := Lib.hid (HV2.out.up hb); clear hb; clear q0 q1; obtain ⟨q0, q1⟩ := box2p HV3.out.i0)
    | (go_at_call 13; (with_reducible refine (CS.out _).mono ?_); rintro e w2 ⟨rfl, hb⟩; have HV2 := Lib.hid (HV1.out.up hb); clear hb; clear q0 q1; obtain ⟨q0, q1⟩ := box2p HV2.out.i0)
    | (go_at_call 9; (with_reducible refine (shown_any _).mono ?_); rintro e w1 ⟨rfl, hb⟩; have HV1 := Lib.hid (HBX.out.up hb); obtain ⟨q0, q1⟩ := box2p HV1.out.i0; clear hb))
  go_ret
  exact ⟨ret_b (by first | rfl | (simp [*]; done)), HV6.out.below⟩
theorem span_law (b c i : Int) (w : World) (b0 : -9223372036854775808 ≤ b ∧ b ≤ 9223372036854775807) (c0 : -9223372036854775808 ≤ c ∧ c ≤ 9223372036854775807) (i0 : 0 ≤ i ∧ i ≤ 18446744073709551615) :
    Calls Try.prog 4 #[.int .i64 b, .agg #[.int .i64 c, .int .u64 i]] w fun e w' => e = .returned (.bool true) ∧ Below w.heap.size w w' := by
  cases hh : isP b c i with
  | false => exact span_no b c i w b0 c0 i0 hh
  | true =>
    by_cases hc : 0 < c
    · exact span_yes b c i w b0 c0 i0 hh hc
    · exact span_zero b c i w b0 c0 i0 hh hc
namespace piecesSpan
open Go.ChangeShapes Go.WideShapes Go.ChangeAt Go.Joins
set_option maxRecDepth 100000 in
theorem lifted (os : Os) (started : os.Started) (H : Type) (enc : TypeId × Value → H) :
    ReturnsInHanded {} Try.checked os 4 .any (Rows.piecesSpanSpec.pre6 enc Try.prog Try.f4 Rows.piecesSpanRow.domain false) (Rows.piecesSpanSpec.post enc Try.prog Try.f4 false true false false) := by
  refine Lw.lifted (C := Try.checked) (B := 4) (by kernel_rfl) os started (by kernel_rfl) Try.func4
    (ChangeSpec.witness6 (enc := enc) (C := Try.checked) false ⟨#[], #[.int .i64 0, .agg #[.int .i64 0, .int .u64 0]], []⟩ 8 (by kernel_rfl) (by kernel_rfl) (by kernel_rfl) (by kernel_rfl)) rfl Try.underlying4 (by kernel_rfl) (by kernel_rfl) (by kernel_rfl) ?_ ?_
  · intro ds h
    rw [Try.params4] at h
    match ds, h with
    | [_, _], _ => rfl
  · intro W base args ds p hval hA
    rw [Try.params4] at hA hval
    obtain ⟨v0, vs0, d0, ds0, p0, q0, hargs, rfl, rfl, h0, r0⟩ := trodAll_cons hA
    obtain ⟨v1, vs1, d1, ds1, p1, q1, rfl, rfl, rfl, h1, r1⟩ := trodAll_cons r0
    obtain ⟨rfl, rfl, rfl⟩ := trodAll_nil r1
    obtain rfl : args = #[v0, v1] := by cases args; simp_all
    obtain ⟨a0, rfl, rfl, rfl, w0⟩ := open_int Try.underlying3 (hval 0 3 v0 rfl rfl) h0
    have b0 := Lw.wf_i64 w0
    obtain ⟨x1_0, x1_1, rfl, z1_0, z1_1⟩ := open_pc (hval 1 30 v1 rfl rfl) h1
    exact span_law a0 x1_0 x1_1 W b0 z1_0 z1_1
theorem over : Rows.piecesSpanRow.holds Try.pinned (OpenSpec.ofChange Rows.piecesSpanSpec) :=
  OpenClaim.holds_of_wide 4 Try.f4 rfl rfl rfl rfl rfl rfl rfl ⟨rfl, rfl, rfl, rfl, rfl⟩ rfl rfl rfl rfl rfl (by kernel_rfl) Try.func4 (by kernel_rfl)
    (of_decide_eq_true (by kernel_rfl)) (by unfold Func.isWrapper; first | (rw [if_pos (by decide +kernel)]; kernel_rfl) | (rw [if_neg (by decide +kernel)]; exact ⟨rfl, rfl⟩))
    (fun os started H enc _ => lifted os started H enc)
theorem proved : Rows.PiecesSpanSaid :=
  over
#print axioms proved
end piecesSpan
end Go.Proofs.Ytdhljlhecoclfaa.Pcs
