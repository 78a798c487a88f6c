/- Digits of sixteen bits: what the walks write, told as digits. Printed by wip/gen/wid.py. -/
import Derived.Test.YtonbidohhgenlaaWidMath
import Derived.Laws.BitsAllLaws
namespace Go.Proofs.Ytonbidohhgenlaa.Wid
open Go.RowKit
theorem dg_0 (z : Int) : dg z 0 = z / 1 % 65536 := by unfold dg; rw [show (65536 : Int) ^ 0 = 1 from by decide]
theorem dg_1 (z : Int) : dg z 1 = z / 65536 % 65536 := by unfold dg; rw [show (65536 : Int) ^ 1 = 65536 from by decide]
theorem dg_2 (z : Int) : dg z 2 = z / 4294967296 % 65536 := by unfold dg; rw [show (65536 : Int) ^ 2 = 4294967296 from by decide]
theorem dg_3 (z : Int) : dg z 3 = z / 281474976710656 % 65536 := by unfold dg; rw [show (65536 : Int) ^ 3 = 281474976710656 from by decide]
theorem dg_4 (z : Int) : dg z 4 = z / 18446744073709551616 % 65536 := by unfold dg; rw [show (65536 : Int) ^ 4 = 18446744073709551616 from by decide]
theorem dg_5 (z : Int) : dg z 5 = z / 1208925819614629174706176 % 65536 := by unfold dg; rw [show (65536 : Int) ^ 5 = 1208925819614629174706176 from by decide]
theorem dg_6 (z : Int) : dg z 6 = z / 79228162514264337593543950336 % 65536 := by unfold dg; rw [show (65536 : Int) ^ 6 = 79228162514264337593543950336 from by decide]
theorem dg_7 (z : Int) : dg z 7 = z / 5192296858534827628530496329220096 % 65536 := by unfold dg; rw [show (65536 : Int) ^ 7 = 5192296858534827628530496329220096 from by decide]
theorem dg_8 (z : Int) : dg z 8 = z / 340282366920938463463374607431768211456 % 65536 := by unfold dg; rw [show (65536 : Int) ^ 8 = 340282366920938463463374607431768211456 from by decide]
theorem dg_9 (z : Int) : dg z 9 = z / 22300745198530623141535718272648361505980416 % 65536 := by unfold dg; rw [show (65536 : Int) ^ 9 = 22300745198530623141535718272648361505980416 from by decide]
def dl (z : Int) : List Int := [dg z 0, dg z 1, dg z 2, dg z 3, dg z 4, dg z 5, dg z 6, dg z 7, dg z 8, dg z 9]
theorem and16 (x : Int) (h0 : 0 ≤ x) (h1 : x ≤ 18446744073709551615) : wrap64 (bits .and .u64 x 65535) = x % 65536 := by
  rw [u64_and x 65535 h0 (by omega) (by omega) (by omega)]
  have h := Nat.and_two_pow_sub_one_eq_mod x.toNat 16
  have e : ((65535 : Int).toNat) = 2 ^ 16 - 1 := by decide
  rw [e, h]; unfold wrap64; omega
theorem ret10 {a0 a1 a2 a3 a4 a5 a6 a7 a8 a9 z : Int} (h : [a0, a1, a2, a3, a4, a5, a6, a7, a8, a9] = dl z) : Ending.returned (.agg #[.int .i64 (a0), .int .i64 (a1), .int .i64 (a2), .int .i64 (a3), .int .i64 (a4), .int .i64 (a5), .int .i64 (a6), .int .i64 (a7), .int .i64 (a8), .int .i64 (a9)]) = .returned (.agg #[.int .i64 (dg z 0), .int .i64 (dg z 1), .int .i64 (dg z 2), .int .i64 (dg z 3), .int .i64 (dg z 4), .int .i64 (dg z 5), .int .i64 (dg z 6), .int .i64 (dg z 7), .int .i64 (dg z 8), .int .i64 (dg z 9)]) := by
  simp only [dl, List.cons.injEq, and_true] at h
  obtain ⟨rfl, rfl, rfl, rfl, rfl, rfl, rfl, rfl, rfl, rfl⟩ := h
  rfl
theorem of_dl_neg (p q : Int) (p0 : -9223372036854775808 ≤ p) (p1 : p ≤ 9223372036854775807) (q0 : 0 ≤ q) (q1 : q ≤ 18446744073709551615) (h : p < 0) : [wrap64 (bits .and .u64 (q) 65535), wrap64 (bits .and .u64 (q / 65536) 65535), wrap64 (bits .and .u64 (q / 4294967296) 65535), wrap64 (bits .and .u64 (q / 281474976710656) 65535), wrap64 (bits .and .u64 (IntKind.u64.wrap p) 65535), wrap64 (bits .and .u64 (IntKind.u64.wrap p / 65536) 65535), wrap64 (bits .and .u64 (IntKind.u64.wrap p / 4294967296) 65535), wrap64 (bits .and .u64 (IntKind.u64.wrap p / 281474976710656) 65535), 65535, 65535] = dl (vl p q) := by
  simp only [dl, List.cons.injEq, and_true]
  refine ⟨?_, ?_, ?_, ?_, ?_, ?_, ?_, ?_, ?_, ?_⟩
  all_goals simp only [dg_0, dg_1, dg_2, dg_3, dg_4, dg_5, dg_6, dg_7, dg_8, dg_9]
  · rw [and16 _ (by omega) (by omega)]; unfold vl; omega
  · rw [and16 _ (by omega) (by omega)]; unfold vl; omega
  · rw [and16 _ (by omega) (by omega)]; unfold vl; omega
  · rw [and16 _ (by omega) (by omega)]; unfold vl; omega
  · rw [IntKind.wrap_u64]; rw [and16 _ (by omega) (by omega)]; unfold vl; omega
  · rw [IntKind.wrap_u64]; rw [and16 _ (by omega) (by omega)]; unfold vl; omega
  · rw [IntKind.wrap_u64]; rw [and16 _ (by omega) (by omega)]; unfold vl; omega
  · rw [IntKind.wrap_u64]; rw [and16 _ (by omega) (by omega)]; unfold vl; omega
  · unfold vl; omega
  · unfold vl; omega
theorem of_dl_pos (p q : Int) (p0 : -9223372036854775808 ≤ p) (p1 : p ≤ 9223372036854775807) (q0 : 0 ≤ q) (q1 : q ≤ 18446744073709551615) (h : 0 ≤ p) : [wrap64 (bits .and .u64 (q) 65535), wrap64 (bits .and .u64 (q / 65536) 65535), wrap64 (bits .and .u64 (q / 4294967296) 65535), wrap64 (bits .and .u64 (q / 281474976710656) 65535), wrap64 (bits .and .u64 (p) 65535), wrap64 (bits .and .u64 (p / 65536) 65535), wrap64 (bits .and .u64 (p / 4294967296) 65535), wrap64 (bits .and .u64 (p / 281474976710656) 65535), 0, 0] = dl (vl p q) := by
  simp only [dl, List.cons.injEq, and_true]
  refine ⟨?_, ?_, ?_, ?_, ?_, ?_, ?_, ?_, ?_, ?_⟩
  all_goals simp only [dg_0, dg_1, dg_2, dg_3, dg_4, dg_5, dg_6, dg_7, dg_8, dg_9]
  · rw [and16 _ (by omega) (by omega)]; unfold vl; omega
  · rw [and16 _ (by omega) (by omega)]; unfold vl; omega
  · rw [and16 _ (by omega) (by omega)]; unfold vl; omega
  · rw [and16 _ (by omega) (by omega)]; unfold vl; omega
  · rw [and16 _ (by omega) (by omega)]; unfold vl; omega
  · rw [and16 _ (by omega) (by omega)]; unfold vl; omega
  · rw [and16 _ (by omega) (by omega)]; unfold vl; omega
  · rw [and16 _ (by omega) (by omega)]; unfold vl; omega
  · unfold vl; omega
  · unfold vl; omega
theorem ofint_dl_neg (n : Int) (n0 : -9223372036854775808 ≤ n) (n1 : n ≤ 9223372036854775807) (h : n < 0) : [wrap64 (bits .and .u64 (IntKind.u64.wrap n) 65535), wrap64 (bits .and .u64 (IntKind.u64.wrap n / 65536) 65535), wrap64 (bits .and .u64 (IntKind.u64.wrap n / 4294967296) 65535), wrap64 (bits .and .u64 (IntKind.u64.wrap n / 281474976710656) 65535), 65535, 65535, 65535, 65535, 65535, 65535] = dl (n) := by
  simp only [dl, List.cons.injEq, and_true]
  refine ⟨?_, ?_, ?_, ?_, ?_, ?_, ?_, ?_, ?_, ?_⟩
  all_goals simp only [dg_0, dg_1, dg_2, dg_3, dg_4, dg_5, dg_6, dg_7, dg_8, dg_9]
  · rw [IntKind.wrap_u64]; rw [and16 _ (by omega) (by omega)]; all_goals omega
  · rw [IntKind.wrap_u64]; rw [and16 _ (by omega) (by omega)]; all_goals omega
  · rw [IntKind.wrap_u64]; rw [and16 _ (by omega) (by omega)]; all_goals omega
  · rw [IntKind.wrap_u64]; rw [and16 _ (by omega) (by omega)]; all_goals omega
  · omega
  · omega
  · omega
  · omega
  · omega
  · omega
theorem ofint_dl_pos (n : Int) (n0 : -9223372036854775808 ≤ n) (n1 : n ≤ 9223372036854775807) (h : 0 ≤ n) : [wrap64 (bits .and .u64 (n) 65535), wrap64 (bits .and .u64 (n / 65536) 65535), wrap64 (bits .and .u64 (n / 4294967296) 65535), wrap64 (bits .and .u64 (n / 281474976710656) 65535), 0, 0, 0, 0, 0, 0] = dl (n) := by
  simp only [dl, List.cons.injEq, and_true]
  refine ⟨?_, ?_, ?_, ?_, ?_, ?_, ?_, ?_, ?_, ?_⟩
  all_goals simp only [dg_0, dg_1, dg_2, dg_3, dg_4, dg_5, dg_6, dg_7, dg_8, dg_9]
  · rw [and16 _ (by omega) (by omega)]; all_goals omega
  · rw [and16 _ (by omega) (by omega)]; all_goals omega
  · rw [and16 _ (by omega) (by omega)]; all_goals omega
  · rw [and16 _ (by omega) (by omega)]; all_goals omega
  · omega
  · omega
  · omega
  · omega
  · omega
  · omega
end Go.Proofs.Ytonbidohhgenlaa.Wid
