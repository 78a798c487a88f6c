/- What the statements of layer 7 lean on. Printed by wip/gen/shplaws.py. -/
import Derived.Test.YtnbmdlkeeabmjaaShpCode
import Derived.Test.YtnbmdlkeeabmjaaShpRef
import Derived.Test.YtnbmdlkeeabmjaaLaw
import Derived.Deep.LoopGhost
import Derived.Deep.RegionHeld3
import Derived.Deep.MidRow
import Derived.Deep.DeepCutAuto
import Derived.Deep.QuietTactic
import Derived.BigQuiet
namespace Go.Proofs.Ytnbmdlkeeabmjaa.Shp
open Go Go.RowKit Lw
set_option linter.unusedVariables false
set_option linter.unusedSimpArgs false
theorem open_cfg_c : Try.prog.cellsOf 24 = 5 := by kernel_rfl
theorem open_cfg {H : Type} {enc : TypeId × Value → H} {w : World} {v : Value} {d : DataW H} {p : List MemPlace} {base : Nat} (hv : Value.okWide Try.prog w .any base 24 v)
    (h : DataW.Trod enc Try.prog w 0 (fun _ => true) true 24 v d p) :
    ∃ (x0 : Int) (x1 : Int) (x2 : Int) (x3 : Int) (x4 : Int), v = .agg #[.int .i64 x0, .int .i64 x1, .int .i64 x2, .int .i64 x3, .int .u64 x4] ∧ (-9223372036854775808 ≤ x0 ∧ x0 ≤ 9223372036854775807) ∧ (-9223372036854775808 ≤ x1 ∧ x1 ≤ 9223372036854775807) ∧ (-9223372036854775808 ≤ x2 ∧ x2 ≤ 9223372036854775807) ∧ (-9223372036854775808 ≤ x3 ∧ x3 ≤ 9223372036854775807) ∧ (0 ≤ x4 ∧ x4 ≤ 18446744073709551615) := by
  have hcs : ∃ cs : Array Value, v = .agg cs ∧ cs.size = Try.prog.cellsOf 24 := by
    simp only [Value.okWide, Try.underlying24] at hv
    obtain ⟨cs, h1, h2, _⟩ := hv
    exact ⟨cs, h1, h2⟩
  obtain ⟨⟨l⟩, rfl, hsz⟩ := hcs
  rw [open_cfg_c] at hsz
  obtain ⟨fuel, hf0⟩ := h
  obtain ⟨xs, k, _, _, _, hxl, hf⟩ := DataW.trod_struct Try.underlying24 hf0
  match xs, hxl, l, hsz with
  | [y0, y1, y2, y3, y4], _, [v0, v1, v2, v3, v4], _ =>
    have g0 := hf 0 _ rfl
    have g1 := hf 1 _ rfl
    have g2 := hf 2 _ rfl
    have g3 := hf 3 _ rfl
    have g4 := hf 4 _ rfl
    simp [Value.cells, show Try.prog.cellsOf 3 = 1 from by kernel_rfl, show Try.prog.cellsOf 22 = 1 from by kernel_rfl] at g0 g1 g2 g3 g4
    obtain ⟨x0, f0, _, w0⟩ := DataW.trod_int (show Try.prog.underlying 3 = some (.int .i64) by kernel_rfl) g0
    simp at f0
    subst f0
    obtain ⟨x1, f1, _, w1⟩ := DataW.trod_int (show Try.prog.underlying 3 = some (.int .i64) by kernel_rfl) g1
    simp at f1
    subst f1
    obtain ⟨x2, f2, _, w2⟩ := DataW.trod_int (show Try.prog.underlying 3 = some (.int .i64) by kernel_rfl) g2
    simp at f2
    subst f2
    obtain ⟨x3, f3, _, w3⟩ := DataW.trod_int (show Try.prog.underlying 3 = some (.int .i64) by kernel_rfl) g3
    simp at f3
    subst f3
    obtain ⟨x4, f4, _, w4⟩ := DataW.trod_int (show Try.prog.underlying 22 = some (.int .u64) by kernel_rfl) g4
    simp at f4
    subst f4
    exact ⟨x0, x1, x2, x3, x4, rfl, Lw.wf_i64 w0, Lw.wf_i64 w1, Lw.wf_i64 w2, Lw.wf_i64 w3, Lw.wf_u64 w4⟩
def sC : Cfg := ⟨3, 2, 2, 1, 5⟩
def sO : Cfg := ⟨0, 0, 0, 0, 0⟩
theorem sC_ok : sC.Ok := by constructor <;> decide
theorem sO_ok : sO.Ok := by constructor <;> decide
theorem k1 : aboveV sC 2 6 = 1 := by decide
theorem k2 : aboveOk sC 2 6 = true := by decide
theorem k3 : aboveOk sC 2 8 = false := by decide
theorem k4 : right sC = true := by decide
theorem k5 : right sO = false := by decide
theorem k6 : keys sC 1 = 4 := by decide
theorem k7 : exactB sC 2 = true := by decide
theorem k8 : exactB sC 1 = false := by decide
theorem k9 : (cols sC 0 7).length = 2 := by rw [cols_len]; decide
theorem k10 : (cols sC 0 8).length = 0 := by rw [cols_len]; decide
theorem columns_at (c : Cfg) (l k : Int) (n : Nat) (w : World) (hn : (cols c l k).length = n) (h : c.Ok) (l0 : -9223372036854775808 ≤ l) (l1 : l ≤ 9223372036854775807) (k0 : 0 ≤ k) (k1 : k ≤ 18446744073709551615) :
    Calls Try.prog 19 #[.agg #[.int .i64 c.bt, .int .i64 c.rw, .int .i64 c.wd, .int .i64 c.md, .int .u64 c.sd], .int .i64 l, .int .u64 k] w fun e w' => ∃ (A : Option Addr) (cap : Nat), e = .returned (.slice A n cap) ∧ Rd .i64 w' A (cols c l k) ∧ n ≤ cap ∧ cap ≤ maxLen ∧ Below w.heap.size w w' := by
  subst hn
  exact columns_any c l k w h l0 l1 k0 k1
theorem rcols_at (c : Cfg) (l k : Int) (n : Nat) (w : World) (hn : (cols c l k).length = n) (h : c.Ok) (l0 : -9223372036854775808 ≤ l) (l1 : l ≤ 9223372036854775807) (k0 : 0 ≤ k) (k1 : k ≤ 18446744073709551615) :
    Calls Try.prog 20 #[.agg #[.int .i64 c.bt, .int .i64 c.rw, .int .i64 c.wd, .int .i64 c.md, .int .u64 c.sd], .int .i64 l, .int .u64 k] w fun e w' => ∃ (A : Addr) (cap : Nat), e = .returned (.slice (some A) n cap) ∧ Rd .i64 w' (some A) (cols c l k) ∧ n ≤ cap ∧ cap ≤ maxLen ∧ Below w.heap.size w w' := by
  subst hn
  exact rcols_any c l k w h l0 l1 k0 k1
theorem s_above (l k : Int) (w : World) (l0 : -9223372036854775808 ≤ l) (l1 : l ≤ 9223372036854775807) (k0 : 0 ≤ k) (k1 : k ≤ 18446744073709551615) :
    Calls Try.prog 16 #[.agg #[.int .i64 3, .int .i64 2, .int .i64 2, .int .i64 1, .int .u64 5], .int .i64 l, .int .u64 k] w fun e w' => e = .returned (.tuple #[.int .u64 (aboveV sC l k), .bool (aboveOk sC l k)]) ∧ Below w.heap.size w w' := above_any sC l k w sC_ok l0 l1 k0 k1
theorem s_cols (l k : Int) (n : Nat) (w : World) (hn : (cols sC l k).length = n) (l0 : -9223372036854775808 ≤ l) (l1 : l ≤ 9223372036854775807) (k0 : 0 ≤ k) (k1 : k ≤ 18446744073709551615) :
    Calls Try.prog 19 #[.agg #[.int .i64 3, .int .i64 2, .int .i64 2, .int .i64 1, .int .u64 5], .int .i64 l, .int .u64 k] w fun e w' => ∃ (A : Option Addr) (cap : Nat), e = .returned (.slice A n cap) ∧ Rd .i64 w' A (cols sC l k) ∧ n ≤ cap ∧ cap ≤ maxLen ∧ Below w.heap.size w w' := columns_at sC l k n w hn sC_ok l0 l1 k0 k1
theorem s_right (w : World) : Calls Try.prog 10 #[.agg #[.int .i64 3, .int .i64 2, .int .i64 2, .int .i64 1, .int .u64 5]] w fun e w' => e = .returned (.bool (right sC)) ∧ Below w.heap.size w w' := right_any sC w sC_ok
theorem o_right (w : World) : Calls Try.prog 10 #[.agg #[.int .i64 0, .int .i64 0, .int .i64 0, .int .i64 0, .int .u64 0]] w fun e w' => e = .returned (.bool (right sO)) ∧ Below w.heap.size w w' := right_any sO w sO_ok
theorem s_keys (l : Int) (w : World) (l0 : -9223372036854775808 ≤ l) (l1 : l ≤ 9223372036854775807) :
    Calls Try.prog 12 #[.agg #[.int .i64 3, .int .i64 2, .int .i64 2, .int .i64 1, .int .u64 5], .int .i64 l] w fun e w' => e = .returned (.int .u64 (keys sC l)) ∧ Below w.heap.size w w' := keys_any sC l w sC_ok l0 l1
theorem s_exact (l : Int) (w : World) (l0 : -9223372036854775808 ≤ l) (l1 : l ≤ 9223372036854775807) :
    Calls Try.prog 14 #[.agg #[.int .i64 3, .int .i64 2, .int .i64 2, .int .i64 1, .int .u64 5], .int .i64 l] w fun e w' => e = .returned (.bool (exactB sC l)) ∧ Below w.heap.size w w' := exact_any sC l w sC_ok l0 l1
set_option maxRecDepth 100000 in
set_option maxHeartbeats 4000000 in
theorem shown_any (w : World) : Calls Try.prog 9 #[] w fun e w' => e = .returned (.bool true) ∧ Below w.heap.size w w' := by
  have e1 := k1
  have e2 := k2
  have e3 := k3
  have e4 := k4
  have e5 := k5
  have e6 := k6
  have e7 := k7
  have e8 := k8
  have e9 := k9
  have e10 := k10
  go_enter Try.func9, Try.ntmps9
  go_wp2_with (first
    | (go_at_call 16; (with_reducible refine (s_above 2 6 _ (by omega) (by omega) (by omega) (by omega)).mono ?_); rintro e w' ⟨rfl, hb⟩; obtain ⟨bs, d, rfl⟩ := below_grow hb; clear hb)
    | (go_at_call 16; (with_reducible refine (s_above 2 8 _ (by omega) (by omega) (by omega) (by omega)).mono ?_); rintro e w' ⟨rfl, hb⟩; obtain ⟨bs, d, rfl⟩ := below_grow hb; clear hb)
    | (go_at_call 19; (with_reducible refine (s_cols 0 7 2 _ k9 (by omega) (by omega) (by omega) (by omega)).mono ?_); rintro e w' ⟨A7, cap7, rfl, hr7, hc7, hm7, hb⟩; obtain ⟨bs, d, rfl⟩ := below_grow hb; clear hb)
    | (go_at_call 19; (with_reducible refine (s_cols 0 8 0 _ k10 (by omega) (by omega) (by omega) (by omega)).mono ?_); rintro e w' ⟨A8, cap8, rfl, hr8, hc8, hm8, hb⟩; obtain ⟨bs, d, rfl⟩ := below_grow hb; clear hb)
    | (go_at_call 10; (with_reducible refine (s_right _).mono ?_); rintro e w' ⟨rfl, hb⟩; obtain ⟨bs, d, rfl⟩ := below_grow hb; clear hb)
    | (go_at_call 10; (with_reducible refine (o_right _).mono ?_); rintro e w' ⟨rfl, hb⟩; obtain ⟨bs, d, rfl⟩ := below_grow hb; clear hb)
    | (go_at_call 12; (with_reducible refine (s_keys 1 _ (by omega) (by omega)).mono ?_); rintro e w' ⟨rfl, hb⟩; obtain ⟨bs, d, rfl⟩ := below_grow hb; clear hb)
    | (go_at_call 14; (with_reducible refine (s_exact 2 _ (by omega) (by omega)).mono ?_); rintro e w' ⟨rfl, hb⟩; obtain ⟨bs, d, rfl⟩ := below_grow hb; clear hb)
    | (go_at_call 14; (with_reducible refine (s_exact 1 _ (by omega) (by omega)).mono ?_); rintro e w' ⟨rfl, hb⟩; obtain ⟨bs, d, rfl⟩ := below_grow hb; clear hb))
  all_goals go_ret
  all_goals refine ⟨ret_b (by first | rfl | (simp [*]; done)), ?_⟩
  all_goals (repeat' (first | (with_reducible exact Below.refl _ _) | (with_reducible assumption) | (with_reducible refine below_over ?_ _ _) | (with_reducible refine Lw.below_alloc ?_ _) | (with_reducible refine Below.drew ?_) | (with_reducible refine below_drewN ?_ _) | (with_reducible refine Below.setCell ?_ ?_ _) | go_size))
theorem cfg_i : (Try.prog.info? 24).map (·.size) = some 5 := by kernel_rfl
theorem bx0 {w0 w : World} {b : Nat} {e : TypeId} {vs : Array Value} {ts : List Thing} (h : Have w0 w (boxT b e vs :: ts)) : (boxT b e vs).I w := h.1
theorem bx1 {w0 w : World} {t : Thing} {b : Nat} {e : TypeId} {vs : Array Value} {ts : List Thing} (h : Have w0 w (t :: boxT b e vs :: ts)) : (boxT b e vs).I w := h.2.2.2.1
end Go.Proofs.Ytnbmdlkeeabmjaa.Shp
