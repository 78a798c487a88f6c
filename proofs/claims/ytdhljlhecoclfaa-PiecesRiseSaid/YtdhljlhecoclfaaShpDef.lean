/- What a stack is made of, in numbers: configs, levels, keys, columns. For every stage from 7 on. -/
import Derived.Test.YtdhljlhecoclfaaSedMath
import Derived.Test.YtdhljlhecoclfaaHshOne
import Derived.Test.YtdhljlhecoclfaaThing
import Derived.Test.YtdhljlhecoclfaaBits
namespace Go.Proofs.Ytdhljlhecoclfaa.Shp
open Go Go.RowKit Lw
set_option linter.unusedVariables false
structure Cfg where
  bt : Int
  rw : Int
  wd : Int
  md : Int
  sd : Int
structure Cfg.Ok (c : Cfg) : Prop where
  b0 : -9223372036854775808 ≤ c.bt
  b1 : c.bt ≤ 9223372036854775807
  r0 : -9223372036854775808 ≤ c.rw
  r1 : c.rw ≤ 9223372036854775807
  w0 : -9223372036854775808 ≤ c.wd
  w1 : c.wd ≤ 9223372036854775807
  m0 : -9223372036854775808 ≤ c.md
  m1 : c.md ≤ 9223372036854775807
  s0 : 0 ≤ c.sd
  s1 : c.sd ≤ 18446744073709551615
def IsRight (c : Cfg) : Prop := 1 ≤ c.bt ∧ c.bt ≤ 59 ∧ 1 ≤ c.rw ∧ c.rw ≤ 8 ∧ 1 ≤ c.wd ∧ c.wd ≤ 128 ∧ 1 ≤ c.md ∧ c.md ≤ 3
instance (c : Cfg) : Decidable (IsRight c) := by unfold IsRight; infer_instance
def right (c : Cfg) : Bool := decide (IsRight c)
def keys (c : Cfg) (l : Int) : Int := if IsRight c ∧ 0 ≤ l ∧ l ≤ c.bt then 2 ^ (c.bt - l).toNat else 0
def exactB (c : Cfg) (l : Int) : Bool := decide (1 ≤ keys c l ∧ keys c l ≤ c.wd)
def aboveOk (c : Cfg) (l k : Int) : Bool := decide (keys c l ≠ 0 ∧ k < keys c 0)
def aboveV (c : Cfg) (l k : Int) : Int := if aboveOk c l k = true then k / 2 ^ l.toNat else 0
def col (c : Cfg) (l k : Int) (r : Nat) : Int := Hsh.buck (Sed.pairA c.sd l r) (Sed.pairB c.sd l r) k c.wd
def cols (c : Cfg) (l k : Int) : List Int := if k < keys c l then (List.range c.rw.toNat).map (col c l k) else []
theorem pow_pos2 (n : Nat) : (1 : Int) ≤ 2 ^ n := by
  have h : (0 : Int) < 2 ^ n := Int.pow_pos (by omega)
  omega
theorem pow_le2 {a b : Nat} (h : a ≤ b) : (2 : Int) ^ a ≤ 2 ^ b := by
  obtain ⟨d, rfl⟩ := Nat.exists_eq_add_of_le h
  rw [Int.pow_add]
  have h1 := pow_pos2 a
  have h2 := pow_pos2 d
  have := Int.mul_le_mul (Int.le_refl ((2 : Int) ^ a)) h2 (by omega) (by omega)
  simpa using this
theorem pow59 {a : Nat} (h : a ≤ 59) : (2 : Int) ^ a ≤ 576460752303423488 := by
  have := pow_le2 h
  have e : (2 : Int) ^ 59 = 576460752303423488 := by decide
  rwa [e] at this
theorem keys_bd (c : Cfg) (l : Int) : 0 ≤ keys c l ∧ keys c l ≤ 576460752303423488 := by
  unfold keys
  split
  · rename_i h
    have h1 := pow_pos2 (c.bt - l).toNat
    have h2 := pow59 (a := (c.bt - l).toNat) (by have := h.1.2.1; omega)
    omega
  · omega
theorem keys_yes {c : Cfg} {l : Int} (h : IsRight c) (h0 : 0 ≤ l) (h1 : l ≤ c.bt) : keys c l = 2 ^ (c.bt - l).toNat := if_pos ⟨h, h0, h1⟩
theorem keys_no {c : Cfg} {l : Int} (h : ¬ (IsRight c ∧ 0 ≤ l ∧ l ≤ c.bt)) : keys c l = 0 := if_neg h
theorem keys_pos {c : Cfg} {l : Int} : 1 ≤ keys c l ↔ IsRight c ∧ 0 ≤ l ∧ l ≤ c.bt := by
  constructor
  · intro h
    refine Decidable.by_contra fun hn => ?_
    rw [keys_no hn] at h
    omega
  · intro h
    rw [keys_yes h.1 h.2.1 h.2.2]
    exact pow_pos2 _
theorem cols_len (c : Cfg) (l k : Int) : (cols c l k).length = if k < keys c l then c.rw.toNat else 0 := by
  unfold cols
  split <;> simp
theorem col_bd (c : Cfg) (l k : Int) (r : Nat) : -1 ≤ col c l k r ∧ col c l k r ≤ 2305843009213693950 := Hsh.buck_bd _ _ _ _
theorem cols_in (c : Cfg) (l k : Int) : ∀ v ∈ cols c l k, -9223372036854775808 ≤ v ∧ v ≤ 9223372036854775807 := by
  intro v hv
  unfold cols at hv
  split at hv
  · obtain ⟨r, _, rfl⟩ := List.mem_map.1 hv
    have := col_bd c l k r
    omega
  · simp at hv
theorem col_range {c : Cfg} (h : IsRight c) (l k : Int) (r : Nat) : 0 ≤ col c l k r ∧ col c l k r < c.wd := by
  unfold col Hsh.buck
  obtain ⟨_, _, _, _, h1, h2, _, _⟩ := h
  rw [if_neg (by omega)]
  exact ⟨Int.emod_nonneg _ (by omega), Int.emod_lt_of_pos _ (by omega)⟩
end Go.Proofs.Ytdhljlhecoclfaa.Shp
