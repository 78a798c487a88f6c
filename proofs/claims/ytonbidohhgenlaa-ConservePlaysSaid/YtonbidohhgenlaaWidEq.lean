/- Arrays of ten numbers held against each other; halves put together. Printed by wip/gen/wid2.py. -/
import Derived.Test.YtonbidohhgenlaaWidBase
import Derived.Test.YtonbidohhgenlaaWidDig
import Derived.ProofKit
import Derived.Deep.MidRow
namespace Go.Proofs.Ytonbidohhgenlaa.Wid
open Go.RowKit
theorem bcell {W w1 : World} (hb : Below W.heap.size W w1) : (∀ b o, b < W.heap.size → w1.cell? ⟨b, o, none⟩ = W.cell? ⟨b, o, none⟩) ∧ (∀ b o, b < W.heap.size → w1.frozen? ⟨b, o, none⟩ = W.frozen? ⟨b, o, none⟩) :=
  ⟨fun b o h => hb.cell (p := ⟨b, o, none⟩) h, fun b o h => hb.frozen (p := ⟨b, o, none⟩) h⟩
theorem cell_lt {w : World} {a : Addr} {v : Value} (h : w.cell? a = some v) : a.block < w.heap.size := by
  rcases Nat.lt_or_ge a.block w.heap.size with h1 | h1
  · exact h1
  · have : w.heap[a.block]? = none := by simp [h1]
    simp [World.cell?, this] at h
theorem range_call {wa w1 : World} {b o : Nat} {cs : List Value} (hr : wa.rangeAt b o cs) (hb : Below wa.heap.size wa w1) : w1.rangeAt b o cs := fun j v hj => by
  have h := hr j v hj
  rw [hb.cell (by have := cell_lt h; simpa using this)]; exact h
theorem range_box {w w' : World} {C : List Value} {t : TypeId} (h : Below (w.heap.size + 1) (w.alloc (.cells C.toArray t)) w') : w'.rangeAt w.heap.size 0 C := fun j v hj => by
  have e : w'.heap[w.heap.size]? = some (.cells C.toArray t) := by
    rw [h.block _ (by omega)]; exact (Go.MapKept.heap_alloc w _).1
  have := World.rangeAt_of_block e 0 C.length
  exact this j v (by simpa using hj)
theorem i64w_bd (x : Int) : -9223372036854775808 ≤ IntKind.i64.wrap x ∧ IntKind.i64.wrap x ≤ 9223372036854775807 := by rw [IntKind.wrap_i64]; omega
theorem long_u : Try.prog.underlying 89 = some (.array 10 3) := by kernel_rfl
theorem long_i : (Try.prog.info? 89).map (·.size) = some 10 := by kernel_rfl
def same (X Y : List Int) : Bool := decide (X = Y)
theorem same_cons (a b : Int) (X Y : List Int) : same (a :: X) (b :: Y) = ((a == b) && same X Y) := by
  unfold same; rw [Bool.eq_iff_iff]; simp
theorem same_nil : same [] [] = true := rfl
theorem int_i : (Try.prog.info? 3).isSome = true := by kernel_rfl
theorem int_c : Try.prog.cellsOf 3 = 1 := by kernel_rfl
theorem int_u : Try.prog.underlying 3 = some (.int .i64) := by kernel_rfl
theorem eq_long (w : World) (x0 x1 x2 x3 x4 x5 x6 x7 x8 x9 y0 y1 y2 y3 y4 y5 y6 y7 y8 y9 : Int) :
    (Op.equalIn 10000 89 (.agg #[Value.int .i64 x0, Value.int .i64 x1, Value.int .i64 x2, Value.int .i64 x3, Value.int .i64 x4, Value.int .i64 x5, Value.int .i64 x6, Value.int .i64 x7, Value.int .i64 x8, Value.int .i64 x9]) (.agg #[Value.int .i64 y0, Value.int .i64 y1, Value.int .i64 y2, Value.int .i64 y3, Value.int .i64 y4, Value.int .i64 y5, Value.int .i64 y6, Value.int .i64 y7, Value.int .i64 y8, Value.int .i64 y9])).run Try.prog w = .ok (same [x0, x1, x2, x3, x4, x5, x6, x7, x8, x9] [y0, y1, y2, y3, y4, y5, y6, y7, y8, y9]) w := by
  obtain ⟨i, hi⟩ := Option.isSome_iff_exists.1 int_i
  rw [show (10000 : Nat) = 9999 + 1 from rfl, run_equalIn_array w 9999 _ _ long_u hi, int_c]
  simp only [List.range, List.range.loop, Op.eqItems]
  simp [go_sem]
  repeat' split
  all_goals simp [same_cons, same_nil, *]
theorem same_dl (y z : Int) : same (dl y) (dl z) = decide (dl y = dl z) := rfl
theorem mod_eq {y z : Int} : ∀ n : Nat, (∀ i, i < n → dg y i = dg z i) → y % 65536 ^ n = z % 65536 ^ n
  | 0, _ => by simp [Int.emod_one]
  | n + 1, h => by rw [mod_succ, mod_succ, h n (by omega), mod_eq n (fun i hi => h i (by omega))]
/-- The digits tell a number that is not too large. -/
theorem dl_inj {y z : Int} (h : dl y = dl z) (y0 : -730750818665451459101842416358141509827966271488 ≤ y) (y1 : y < 730750818665451459101842416358141509827966271488) (z0 : -730750818665451459101842416358141509827966271488 ≤ z) (z1 : z < 730750818665451459101842416358141509827966271488) : y = z := by
  simp only [dl, List.cons.injEq, and_true] at h
  have hm := mod_eq 10 (fun i hi => by
    match i, hi with
    | 0, _ => exact h.1
    | 1, _ => exact h.2.1
    | 2, _ => exact h.2.2.1
    | 3, _ => exact h.2.2.2.1
    | 4, _ => exact h.2.2.2.2.1
    | 5, _ => exact h.2.2.2.2.2.1
    | 6, _ => exact h.2.2.2.2.2.2.1
    | 7, _ => exact h.2.2.2.2.2.2.2.1
    | 8, _ => exact h.2.2.2.2.2.2.2.2.1
    | 9, _ => exact h.2.2.2.2.2.2.2.2.2)
  rw [show (65536 : Int) ^ 10 = 1461501637330902918203684832716283019655932542976 from by decide] at hm
  omega
theorem dl_mod {y z : Int} (h : y % 1461501637330902918203684832716283019655932542976 = z % 1461501637330902918203684832716283019655932542976) : dl y = dl z := by
  simp only [dl, List.cons.injEq, and_true, dg_0, dg_1, dg_2, dg_3, dg_4, dg_5, dg_6, dg_7, dg_8, dg_9]
  omega
def nn (z : Int) : Int := IntKind.i64.wrap (z % 18446744073709551616)
def hh (z : Int) : Int := IntKind.i64.wrap (z / 18446744073709551616 % 18446744073709551616)
theorem nn_bd (z : Int) : -9223372036854775808 ≤ nn z ∧ nn z ≤ 9223372036854775807 := i64w_bd _
theorem hh_bd (z : Int) : -9223372036854775808 ≤ hh z ∧ hh z ≤ 9223372036854775807 := i64w_bd _
theorem or16 (x y : Int) (k : Nat) (B : Int) (hB : B = 2 ^ k) (h0 : 0 ≤ x) (h1 : x < B) (g0 : 0 ≤ y) (g1 : y ≤ 65535) (hk : B * 65536 ≤ 18446744073709551616) : bits .or .u64 x (y * B) = x + y * B := by
  obtain ⟨X, rfl⟩ := Int.eq_ofNat_of_zero_le h0
  obtain ⟨Y, rfl⟩ := Int.eq_ofNat_of_zero_le g0
  have eB : B = ((2 ^ k : Nat) : Int) := by rw [hB]; simp
  have hX : X < 2 ^ k := by omega
  have hYB : (Y : Int) * B ≤ 65535 * B := Int.mul_le_mul_of_nonneg_right g1 (by omega)
  have e2 : ((Y : Int) * B) = ((Y * 2 ^ k : Nat) : Int) := by rw [eB]; simp
  have hp : 0 ≤ (Y : Int) * B := by rw [e2]; omega
  have hlt : (X : Int) < 18446744073709551616 := by omega
  have hlt2 : (Y : Int) * B < 18446744073709551616 := by omega
  rw [u64_or _ _ h0 hlt hp hlt2, e2]
  have : (X ||| Y * 2 ^ k) = X + Y * 2 ^ k := by
    rw [Nat.or_comm, Nat.mul_comm, ← Nat.two_pow_add_eq_or_of_lt hX, Nat.add_comm]
  simp only [Int.toNat_natCast]
  rw [this]; simp
theorem or_lo (z : Int) : bits .or .u64 (bits .or .u64 (bits .or .u64 (bits .or .u64 0 (dg z 0)) (dg z 1 * 65536)) (dg z 2 * 4294967296)) (dg z 3 * 281474976710656) = z % 18446744073709551616 := by
  have b0 := dg_bd z 0
  have b1 := dg_bd z 1
  have b2 := dg_bd z 2
  have b3 := dg_bd z 3
  have e0 : bits .or .u64 0 (dg z 0) = dg z 0 := by have := or16 0 (dg z 0) 0 1 rfl (by omega) (by omega) b0.1 b0.2 (by omega); rw [Int.mul_one] at this; omega
  have e1 := or16 (dg z 0) (dg z 1) 16 65536 (by decide) (by omega) (by omega) b1.1 b1.2 (by omega)
  have e2 := or16 (dg z 0 + dg z 1 * 65536) (dg z 2) 32 4294967296 (by decide) (by omega) (by omega) b2.1 b2.2 (by omega)
  have e3 := or16 (dg z 0 + dg z 1 * 65536 + dg z 2 * 4294967296) (dg z 3) 48 281474976710656 (by decide) (by omega) (by omega) b3.1 b3.2 (by omega)
  rw [e0, e1, e2, e3]; simp only [dg_0, dg_1, dg_2, dg_3]; omega
theorem or_hi (z : Int) : bits .or .u64 (bits .or .u64 (bits .or .u64 (bits .or .u64 0 (dg z 4)) (dg z 5 * 65536)) (dg z 6 * 4294967296)) (dg z 7 * 281474976710656) = z / 18446744073709551616 % 18446744073709551616 := by
  have b0 := dg_bd z 4
  have b1 := dg_bd z 5
  have b2 := dg_bd z 6
  have b3 := dg_bd z 7
  have e0 : bits .or .u64 0 (dg z 4) = dg z 4 := by have := or16 0 (dg z 4) 0 1 rfl (by omega) (by omega) b0.1 b0.2 (by omega); rw [Int.mul_one] at this; omega
  have e1 := or16 (dg z 4) (dg z 5) 16 65536 (by decide) (by omega) (by omega) b1.1 b1.2 (by omega)
  have e2 := or16 (dg z 4 + dg z 5 * 65536) (dg z 6) 32 4294967296 (by decide) (by omega) (by omega) b2.1 b2.2 (by omega)
  have e3 := or16 (dg z 4 + dg z 5 * 65536 + dg z 6 * 4294967296) (dg z 7) 48 281474976710656 (by decide) (by omega) (by omega) b3.1 b3.2 (by omega)
  rw [e0, e1, e2, e3]; simp only [dg_4, dg_5, dg_6, dg_7]; omega
theorem int_same (z : Int) (z0 : -730750818665451459101842416358141509827966271488 ≤ z) (z1 : z < 730750818665451459101842416358141509827966271488) : same [dg (nn z) 0, dg (nn z) 1, dg (nn z) 2, dg (nn z) 3, dg (nn z) 4, dg (nn z) 5, dg (nn z) 6, dg (nn z) 7, dg (nn z) 8, dg (nn z) 9] [dg z 0, dg z 1, dg z 2, dg z 3, dg z 4, dg z 5, dg z 6, dg z 7, dg z 8, dg z 9] = fit64 z := by
  show same (dl (nn z)) (dl z) = _
  have hb := nn_bd z
  have hm : ∃ k, z = nn z + 18446744073709551616 * k := ⟨(z - nn z) / 18446744073709551616, by unfold nn; rw [IntKind.wrap_i64]; omega⟩
  obtain ⟨k, hk⟩ := hm
  by_cases h : -9223372036854775808 ≤ z ∧ z < 9223372036854775808
  · have e : nn z = z := by omega
    rw [e, (fit64_yes h.1 h.2).1, same_dl]; simp
  · rw [(fit64_no h).1, same_dl]
    refine decide_eq_false fun e => h ?_
    have := dl_inj e (by omega) (by omega) z0 z1
    omega
theorem wide_same (z : Int) (z0 : -730750818665451459101842416358141509827966271488 ≤ z) (z1 : z < 730750818665451459101842416358141509827966271488) : same [dg (vl (hh z) (z % 18446744073709551616)) 0, dg (vl (hh z) (z % 18446744073709551616)) 1, dg (vl (hh z) (z % 18446744073709551616)) 2, dg (vl (hh z) (z % 18446744073709551616)) 3, dg (vl (hh z) (z % 18446744073709551616)) 4, dg (vl (hh z) (z % 18446744073709551616)) 5, dg (vl (hh z) (z % 18446744073709551616)) 6, dg (vl (hh z) (z % 18446744073709551616)) 7, dg (vl (hh z) (z % 18446744073709551616)) 8, dg (vl (hh z) (z % 18446744073709551616)) 9] [dg z 0, dg z 1, dg z 2, dg z 3, dg z 4, dg z 5, dg z 6, dg z 7, dg z 8, dg z 9] = fit z := by
  show same (dl (vl (hh z) (z % 18446744073709551616))) (dl z) = _
  have hb := hh_bd z
  have hm : ∃ k, z / 18446744073709551616 = hh z + 18446744073709551616 * k := ⟨(z / 18446744073709551616 - hh z) / 18446744073709551616, by unfold hh; rw [IntKind.wrap_i64]; omega⟩
  obtain ⟨k, hk⟩ := hm
  by_cases h : -170141183460469231731687303715884105728 ≤ z ∧ z < 170141183460469231731687303715884105728
  · have e : vl (hh z) (z % 18446744073709551616) = z := by unfold vl; omega
    rw [e, (fit_yes h.1 h.2).1, same_dl]; simp
  · rw [(fit_no h).1, same_dl]
    refine decide_eq_false fun e => h ?_
    have := dl_inj e (by unfold vl; omega) (by unfold vl; omega) z0 z1
    unfold vl at this; omega
theorem int_vals2 (z : Int) : (fit64 z = true → nn z = f64 z) ∧ (fit64 z = false → 0 = f64 z) := by
  have hb := nn_bd z
  have hm : ∃ k, z = nn z + 18446744073709551616 * k := ⟨(z - nn z) / 18446744073709551616, by unfold nn; rw [IntKind.wrap_i64]; omega⟩
  obtain ⟨k, hk⟩ := hm
  refine ⟨fun h => ?_, fun h => by unfold f64; simp [h]⟩
  have h2 : -9223372036854775808 ≤ z ∧ z < 9223372036854775808 := by unfold fit64 at h; simpa using h
  rw [(fit64_yes h2.1 h2.2).2]; omega
theorem wide_vals2 (z : Int) : (fit z = true → hh z = fh z ∧ z % 18446744073709551616 = fl z) ∧ (fit z = false → 0 = fh z ∧ 0 = fl z) := by
  have hb := hh_bd z
  have hm : ∃ k, z / 18446744073709551616 = hh z + 18446744073709551616 * k := ⟨(z / 18446744073709551616 - hh z) / 18446744073709551616, by unfold hh; rw [IntKind.wrap_i64]; omega⟩
  obtain ⟨k, hk⟩ := hm
  refine ⟨fun h => ?_, fun h => ⟨by unfold fh; simp [h], by unfold fl; simp [h]⟩⟩
  have h2 : -170141183460469231731687303715884105728 ≤ z ∧ z < 170141183460469231731687303715884105728 := by unfold fit at h; simpa using h
  rw [(fit_yes h2.1 h2.2).2.1, (fit_yes h2.1 h2.2).2.2]; omega
theorem minus_dl (z : Int) : [65535 - dg z 0, 65535 - dg z 1, 65535 - dg z 2, 65535 - dg z 3, 65535 - dg z 4, 65535 - dg z 5, 65535 - dg z 6, 65535 - dg z 7, 65535 - dg z 8, 65535 - dg z 9] = dl (-1 - z) := by
  simp only [dl, List.cons.injEq, and_true, dg_0, dg_1, dg_2, dg_3, dg_4, dg_5, dg_6, dg_7, dg_8, dg_9]
  omega
theorem one_dl : [1, 0, 0, 0, 0, 0, 0, 0, 0, 0] = dl 1 := by decide
theorem below_dg (z : Int) (z0 : -730750818665451459101842416358141509827966271488 ≤ z) (z1 : z < 730750818665451459101842416358141509827966271488) : decide (32768 ≤ dg z 9) = decide (z < 0) := by
  rw [Bool.eq_iff_iff]; simp only [decide_eq_true_eq, dg_9]; omega
end Go.Proofs.Ytonbidohhgenlaa.Wid
