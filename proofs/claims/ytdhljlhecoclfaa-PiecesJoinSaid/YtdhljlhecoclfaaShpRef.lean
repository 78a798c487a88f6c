/- The walks of the document's own answers for layer 7. Printed by wip/gen/shp.py. -/
import Derived.Test.YtdhljlhecoclfaaShpDef
import Derived.Test.YtdhljlhecoclfaaSedRef
import Derived.Test.YtdhljlhecoclfaaHshRef
import Derived.Deep.LoopGhost
import Derived.Deep.RegionHeld3
import Derived.Deep.QuietTactic
import Derived.BigQuiet
import Derived.WalkSpells
namespace Go.Proofs.Ytdhljlhecoclfaa.Shp
open Go Go.RowKit Lw
set_option linter.unusedVariables false
set_option linter.unusedSimpArgs false
theorem ret_b {a b : Bool} (h : a = b) : Ending.returned (.bool a) = .returned (.bool b) := by rw [h]
theorem ret_i {k : IntKind} {a b : Int} (h : a = b) : Ending.returned (.int k a) = .returned (.int k b) := by rw [h]
theorem ret_ib {k : IntKind} {a b : Int} {p q : Bool} (h : a = b) (g : p = q) : Ending.returned (.tuple #[.int k a, .bool p]) = .returned (.tuple #[.int k b, .bool q]) := by rw [h, g]
theorem right_mode (c : Cfg) (h1 : 1 ≤ c.bt) (h2 : c.bt ≤ 59) (h3 : 1 ≤ c.rw) (h4 : c.rw ≤ 8) (h5 : 1 ≤ c.wd) (h6 : c.wd ≤ 128) : right c = (c.md == 1 || c.md == 2 || c.md == 3) := by
  by_cases h : 1 ≤ c.md ∧ c.md ≤ 3
  · have e : right c = true := decide_eq_true ⟨h1, h2, h3, h4, h5, h6, h.1, h.2⟩
    have : c.md = 1 ∨ c.md = 2 ∨ c.md = 3 := by omega
    rw [e]
    rcases this with h | h | h <;> simp [h]
  · have e : right c = false := decide_eq_false (fun hr => h ⟨hr.2.2.2.2.2.2.1, hr.2.2.2.2.2.2.2⟩)
    have n1 : ¬ c.md = 1 := by omega
    have n2 : ¬ c.md = 2 := by omega
    have n3 : ¬ c.md = 3 := by omega
    rw [e]
    simp [n1, n2, n3]
theorem pow_next (a : Nat) : (2 : Int) ^ (a + 1) = 2 ^ a * 2 := by rw [Int.pow_succ]
theorem pow_div (k l : Int) (n : Nat) : k / 2 ^ n / 2 = k / 2 ^ (n + 1) := by
  rw [Int.pow_succ, Int.ediv_ediv_of_nonneg (by have := pow_pos2 n; omega)]
theorem div_bd (k : Int) (n : Nat) (h : 0 ≤ k) : 0 ≤ k / 2 ^ n ∧ k / 2 ^ n ≤ k := by
  have hp := pow_pos2 n
  refine ⟨Int.ediv_nonneg h (by omega), ?_⟩
  exact Int.ediv_le_self _ h
theorem int_info : (Try.prog.info? 3).map (fun i => (i.zero, i.size, i.bytes)) = some (some (.int .i64 0), 1, 8) := by kernel_rfl
theorem cols_yes {c : Cfg} {l k : Int} (h : k < keys c l) : cols c l k = (List.range c.rw.toNat).map (col c l k) := if_pos h
theorem cols_no {c : Cfg} {l k : Int} (h : ¬ k < keys c l) : cols c l k = [] := if_neg h
theorem range_next (f : Nat → Int) (r : Nat) : (List.range (r + 1)).map f = (List.range r).map f ++ [f r] := by rw [List.range_succ, List.map_append]; rfl
def anyC (c : Cfg) (b v : Int) : Cfg := ⟨1 + c.bt % 65536 % b, 1 + c.rw % 65536 % 4, 1 + c.wd % 65536 % v, 1 + c.md % 65536 % 3, c.sd⟩
theorem any_right (c : Cfg) (b v : Int) (hb0 : 1 ≤ b) (hb1 : b ≤ 59) (hv0 : 1 ≤ v) (hv1 : v ≤ 128) : IsRight (anyC c b v) := by
  have h1 := Int.emod_nonneg (c.bt % 65536) (show b ≠ 0 by omega)
  have h2 := Int.emod_lt_of_pos (c.bt % 65536) (show 0 < b by omega)
  have h3 := Int.emod_nonneg (c.wd % 65536) (show v ≠ 0 by omega)
  have h4 := Int.emod_lt_of_pos (c.wd % 65536) (show 0 < v by omega)
  unfold IsRight anyC
  dsimp only
  refine ⟨by omega, by omega, by omega, by omega, by omega, by omega, by omega, by omega⟩
theorem any_ok (c : Cfg) (h : c.Ok) (b v : Int) (hb0 : 1 ≤ b) (hb1 : b ≤ 59) (hv0 : 1 ≤ v) (hv1 : v ≤ 128) : (anyC c b v).Ok := by
  obtain ⟨g1, g2, g3, g4, g5, g6, g7, g8⟩ := any_right c b v hb0 hb1 hv0 hv1
  exact ⟨by omega, by omega, by omega, by omega, by omega, by omega, by omega, by omega, h.s0, h.s1⟩
theorem any_part (x m : Int) (hm0 : 1 ≤ m) (hm1 : m ≤ 65536) : ∃ X, bits .and .i64 x 65535 = X ∧ 0 ≤ X ∧ X ≤ 65535 ∧ Int.tmod X m = x % 65536 % m ∧ 0 ≤ x % 65536 % m ∧ x % 65536 % m ≤ 65535 := by
  refine ⟨x % 65536, and16i x, by omega, by omega, ?_, Int.emod_nonneg _ (by omega), ?_⟩
  · rw [Int.tmod_eq_emod_of_nonneg (by omega)]
  · have := Int.emod_lt_of_pos (x % 65536) (show 0 < m by omega)
    omega
theorem level_of (x m : Int) (h0 : 1 ≤ m) (h1 : m ≤ 65536) : ∃ X L, bits .and .i64 x 65535 = X ∧ 0 ≤ X ∧ X ≤ 65535 ∧ Int.tmod X m = L ∧ 0 ≤ L ∧ L < m := by
  obtain ⟨X, a, b, c, d, e, f⟩ := any_part x m h0 h1
  exact ⟨X, x % 65536 % m, a, b, c, d, e, Int.emod_lt_of_pos _ (by omega)⟩
theorem keys_half {c : Cfg} (h : IsRight c) {l : Int} (h0 : 0 ≤ l) (h1 : l < c.bt) : keys c l = 2 * keys c (l + 1) := by
  rw [keys_yes h h0 (by omega), keys_yes h (by omega) (by omega)]
  have e : (c.bt - l).toNat = (c.bt - (l + 1)).toNat + 1 := by omega
  rw [e, Int.pow_succ, Int.mul_comm]
theorem keys_top {c : Cfg} (h : IsRight c) : keys c c.bt = 1 := by
  rw [keys_yes h (by have := h.1; omega) (by omega)]
  have e : (c.bt - c.bt).toNat = 0 := by omega
  rw [e]
  rfl
theorem exact_up {c : Cfg} (h : IsRight c) {l : Int} (h0 : 0 ≤ l) (h1 : l < c.bt) (he : exactB c l = true) : exactB c (l + 1) = true := by
  have e := of_decide_eq_true he
  have k := keys_half h h0 h1
  have p := keys_pos.2 ⟨h, (by omega : 0 ≤ l + 1), (by omega : l + 1 ≤ c.bt)⟩
  exact decide_eq_true ⟨p, by omega⟩
theorem exact_top {c : Cfg} (h : IsRight c) : exactB c c.bt = true := decide_eq_true ⟨by rw [keys_top h]; omega, by rw [keys_top h]; exact h.2.2.2.2.1⟩
end Go.Proofs.Ytdhljlhecoclfaa.Shp
