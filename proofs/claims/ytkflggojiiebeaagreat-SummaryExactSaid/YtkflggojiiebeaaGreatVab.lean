/- Texts that statements lean on, put together: RowPc, RowSt, WidMath, WidBase, WidAdd, WidDig, WidEq, WidOf, WidInt, WidPlus, WidSub, WidMinus, WidSum, SedMath, SedBits, SedOne, HshOne, HshRef, GrdRef, GrdDef, GrdNew, GrdCode, GrdJoin, GrdDoc, Rows2, ShpDef. -/
import Derived.Test.YtkflggojiiebeaaGreatVaa
import Derived.Shelf.Spec.BitsCarry
import Derived.Deep.DeepCutAuto
namespace Go.Proofs.YtkflggojiiebeaaGreat.Pcs
open Go Go.RowKit Lw
set_option linter.unusedVariables false
/-- The cells of pairs. -/
def flatP (us : List (Int × Int)) : List Value := us.flatMap (fun u => [.int .i64 u.1, .int .u64 u.2])
theorem flatP_snoc (us : List (Int × Int)) (u : Int × Int) : flatP (us ++ [u]) = flatP us ++ [.int .i64 u.1, .int .u64 u.2] := by
  unfold flatP
  simp
theorem flatP_get : ∀ {us : List (Int × Int)} {k : Nat} {u : Int × Int}, us[k]? = some u → (flatP us)[k * 2]? = some (.int .i64 u.1) ∧ (flatP us)[k * 2 + 1]? = some (.int .u64 u.2)
  | [], k, u, h => by simp at h
  | v :: us, 0, u, h => by
    simp at h
    subst h
    unfold flatP
    simp
  | v :: us, k + 1, u, h => by
    have ih := flatP_get (us := us) (k := k) (u := u) (by simpa using h)
    have e : (k + 1) * 2 = k * 2 + 1 + 1 := by omega
    rw [e]
    unfold flatP at ih ⊢
    simpa using ih
theorem pc_info : (Tryz.prog.info? 82).map (fun i => (i.zero, i.size, i.bytes)) = some (some (.agg #[.int .i64 0, .int .u64 0]), 2, 16) := by kernel_rfl
theorem pcs_u : Tryz.prog.underlying 118 = some (.slice 82) := by kernel_rfl
theorem pc_news {w : World} {B : Nat} {U D : Int} {t : TypeId} {fr : Nat × Nat} (h : w.heap[B]? = some (.cells #[.int .i64 U, .int .u64 D] t fr)) : ∀ j u, ([.int .i64 U, .int .u64 D] : List Value)[j]? = some u → w.cell? ((⟨B, 0, none⟩ : Addr).add j) = some u :=
  World.news_of_block h
theorem pc_one (U D : Int) : ∀ u ∈ ([.int .i64 U, .int .u64 D] : List Value), u.oneCell' = true := by
  intro u hu
  simp at hu
  rcases hu with rfl | rfl <;> rfl
/-- What lies in a row of pairs of one's own. -/
theorem own_pc {w : World} {base : Nat} {e : TypeId} {g n cap : Nat} {us : List (Int × Int)} (h : w.ownsRow base e 2 (.slice (some ⟨g, 0, none⟩) n cap) n (flatP us)) {k : Nat} {u : Int × Int} (hu : us[k]? = some u) :
    w.cell? ((⟨g, 0, none⟩ : Addr).add (k * 2)) = some (.int .i64 u.1) ∧ w.cell? ((⟨g, 0, none⟩ : Addr).add (k * 2 + 1)) = some (.int .u64 u.2) :=
  ⟨h.cells (g := g) rfl _ _ (flatP_get hu).1, h.cells (g := g) rfl _ _ (flatP_get hu).2⟩
structure PcV (w : World) (A : Option Addr) (n c : Nat) (qs : List (Int × Int)) : Prop where
  nil : A = none → n = 0 ∧ c = 0
  nc : n ≤ c
  cm : c ≤ maxLen
  len : qs.length = n
  each : ∀ (i : Nat) q, qs[i]? = some q → ∃ a, A = some a ∧ w.cell? (a.add (i * 2)) = some (.int .i64 (q.1)) ∧ w.cell? (a.add (i * 2 + 1)) = some (.int .u64 (q.2)) ∧ (-9223372036854775808 ≤ (q.1) ∧ (q.1) ≤ 9223372036854775807) ∧ (0 ≤ (q.2) ∧ (q.2) ≤ 18446744073709551615)
theorem PcV.up {w w' : World} {A : Option Addr} {n c : Nat} {qs : List (Int × Int)} (h : PcV w A n c qs) (hb : Below w.heap.size w w') : PcV w' A n c qs :=
  ⟨h.nil, h.nc, h.cm, h.len, fun i q hq => by
    obtain ⟨a, e, h1, h2, h3⟩ := h.each i q hq
    exact ⟨a, e, cell_up h1 hb, cell_up h2 hb, h3⟩⟩
theorem PcV.at {w : World} {A : Option Addr} {n c : Nat} {qs : List (Int × Int)} (h : PcV w A n c qs) {i : Nat} {q : Int × Int} (hq : qs[i]? = some q) : ∃ (a : Addr) (g o : Nat), A = some a ∧ a.add (i * 2) = ⟨g, o, none⟩ ∧ w.cell? ⟨g, o, none⟩ = some (.int .i64 q.1) ∧ w.cell? ⟨g, o + 1, none⟩ = some (.int .u64 q.2) ∧ (-9223372036854775808 ≤ q.1 ∧ q.1 ≤ 9223372036854775807) ∧ (0 ≤ q.2 ∧ q.2 ≤ 18446744073709551615) := by
  obtain ⟨a, e, h1, h2, h3, h4⟩ := h.each i q hq
  rw [← add_add'] at h2
  have hs : (a.add (i * 2)).spot = none := by
    unfold World.cell? at h1
    split at h1
    · split at h1
      · cases h1
      · rename_i hs; simpa using hs
    · cases h1
  obtain ⟨ad, had⟩ : ∃ ad, a.add (i * 2) = ad := ⟨_, rfl⟩
  rw [had] at h1 h2 hs
  obtain ⟨g, o, sp⟩ := ad
  simp only at hs
  subst hs
  rw [Ord.add_at] at h2
  exact ⟨a, g, o, e, had, h1, h2, h3, h4⟩
theorem add_block (a : Addr) (j : Nat) : (a.add j).block = a.block := by
  unfold Addr.add
  split <;> rfl
theorem PcV.keep {w w' : World} {A : Option Addr} {n c : Nat} {qs : List (Int × Int)} {H : Nat → Prop} (h : PcV w A n c qs) (hk : Kept H w w') (hf : ∀ a, A = some a → ¬ H a.block) : PcV w' A n c qs :=
  ⟨h.nil, h.nc, h.cm, h.len, fun i q hq => by
    obtain ⟨a, e, h1, h2, h3⟩ := h.each i q hq
    exact ⟨a, e, hk.cell h1 (by rw [add_block]; exact hf a e), hk.cell h2 (by rw [add_block]; exact hf a e), h3⟩⟩
def pcT (A : Option Addr) (n c : Nat) (us : List (Int × Int)) : Thing where
  I := fun w => PcV w A n c us ∧ ∀ a, A = some a → a.block < w.heap.size
  F := fun k => ∃ a, A = some a ∧ a.block = k
  keep := fun w w' H h hk hf => ⟨h.1.keep hk (fun a e => hf _ ⟨a, e, rfl⟩), fun a e => Nat.lt_of_lt_of_le (h.2 a e) hk.size⟩
  lt := fun w h k hk => by
    obtain ⟨a, e, rfl⟩ := hk
    exact h.2 a e
theorem pcI {w : World} {A : Option Addr} {n c : Nat} {us : List (Int × Int)} (h : (pcT A n c us).I w) : PcV w A n c us := h.1
/-- What a row of pieces of one's own is. -/
theorem pc_own {w : World} {base : Nat} {e : TypeId} {v : Value} {n : Nat} {us : List (Int × Int)} (h : w.ownsRow base e 2 v n (flatP us)) (hl : us.length = n) (hb : ∀ u ∈ us, (-9223372036854775808 ≤ u.1 ∧ u.1 ≤ 9223372036854775807) ∧ (0 ≤ u.2 ∧ u.2 ≤ 18446744073709551615)) :
    ∃ A cap, v = .slice A n cap ∧ (pcT A n cap us).I w ∧ ∀ k, (pcT A n cap us).F k → base ≤ k := by
  have hge := own_ge h
  rcases h.2 with ⟨h1, h2⟩ | ⟨g, cap, cur, h1, h2, h3, h4, h5, h6, h7⟩
  · subst h2
    refine ⟨none, 0, by rw [h1], ⟨⟨fun _ => ⟨rfl, rfl⟩, Nat.le_refl _, by decide, hl, fun i q hq => ?_⟩, (fun a e => by cases e)⟩, (fun k hk => by obtain ⟨a, e, _⟩ := hk; cases e)⟩
    have := (List.getElem?_eq_some_iff.1 hq).1
    omega
  · subst h1
    have hg : g < w.heap.size := own_lt h rfl
    refine ⟨some ⟨g, 0, none⟩, cap, rfl, ⟨⟨(fun e => by cases e), h4, by assumption, hl, fun i q hq => ⟨_, rfl, (own_pc h hq).1, (own_pc h hq).2, hb q (List.mem_of_getElem? hq)⟩⟩, (fun a e => by injection e with e; subst e; exact hg)⟩, fun k hk => ?_⟩
    obtain ⟨a, e, rfl⟩ := hk
    injection e with e
    subst e
    exact hge g rfl
end Go.Proofs.YtkflggojiiebeaaGreat.Pcs

namespace Go.Proofs.YtkflggojiiebeaaGreat.Lw
open Go Go.RowKit
set_option linter.unusedVariables false
theorem flat_len {α : Type} {K : Nat} {enc : α → List Value} (hK : ∀ q, (enc q).length = K) : ∀ qs : List α, (qs.flatMap enc).length = qs.length * K
  | [] => by simp
  | q :: qs => by
    rw [List.flatMap_cons, List.length_append, hK, flat_len hK qs, List.length_cons, Nat.succ_mul, Nat.add_comm]
theorem flat_get {α : Type} {K : Nat} {enc : α → List Value} (hK : ∀ q, (enc q).length = K) : ∀ {qs : List α} {i : Nat} {q : α} {j : Nat} {v : Value}, qs[i]? = some q → (enc q)[j]? = some v → (qs.flatMap enc)[i * K + j]? = some v
  | [], i, q, j, v, h, _ => by simp at h
  | p :: qs, 0, q, j, v, h, hv => by
    have e : p = q := by simpa using h
    subst e
    have hj := (List.getElem?_eq_some_iff.1 hv).1
    rw [Nat.zero_mul, Nat.zero_add, List.flatMap_cons, List.getElem?_append_left hj]
    exact hv
  | p :: qs, i + 1, q, j, v, h, hv => by
    have ih := flat_get hK (qs := qs) (i := i) (q := q) (j := j) (v := v) (by simpa using h) hv
    rw [List.flatMap_cons, List.getElem?_append_right (by rw [hK, Nat.succ_mul]; omega), hK]
    have e : (i + 1) * K + j - K = i * K + j := by rw [Nat.succ_mul]; omega
    rw [e]
    exact ih
theorem flat_snoc {α : Type} (enc : α → List Value) (qs : List α) (q : α) : (qs ++ [q]).flatMap enc = qs.flatMap enc ++ enc q := by
  rw [List.flatMap_append]
  simp
/-- What lies in a row of structs. -/
structure StV {α : Type} (K : Nat) (enc : α → List Value) (w : World) (A : Option Addr) (n c : Nat) (qs : List α) : Prop where
  nil : A = none → n = 0 ∧ c = 0
  nc : n ≤ c
  cm : c ≤ maxLen
  len : qs.length = n
  each : ∀ (i : Nat) q, qs[i]? = some q → ∃ a, A = some a ∧ ∀ (j : Nat) v, (enc q)[j]? = some v → w.cell? (a.add (i * K + j)) = some v
theorem add_block' (a : Addr) (j : Nat) : (a.add j).block = a.block := by
  unfold Addr.add
  split <;> rfl
theorem StV.keep {α : Type} {K : Nat} {enc : α → List Value} {w w' : World} {A : Option Addr} {n c : Nat} {qs : List α} {H : Nat → Prop} (h : StV K enc w A n c qs) (hk : Kept H w w') (hf : ∀ a, A = some a → ¬ H a.block) : StV K enc w' A n c qs :=
  ⟨h.nil, h.nc, h.cm, h.len, fun i q hq => by
    obtain ⟨a, e, h1⟩ := h.each i q hq
    exact ⟨a, e, fun j v hv => hk.cell (h1 j v hv) (by rw [add_block']; exact hf a e)⟩⟩
theorem StV.up {α : Type} {K : Nat} {enc : α → List Value} {w w' : World} {A : Option Addr} {n c : Nat} {qs : List α} (h : StV K enc w A n c qs) (hb : Below w.heap.size w w') : StV K enc w' A n c qs :=
  ⟨h.nil, h.nc, h.cm, h.len, fun i q hq => by
    obtain ⟨a, e, h1⟩ := h.each i q hq
    exact ⟨a, e, fun j v hv => cell_up (h1 j v hv) hb⟩⟩
/-- One of them, by its place. -/
theorem StV.at {α : Type} {K : Nat} {enc : α → List Value} {w : World} {A : Option Addr} {n c : Nat} {qs : List α} (h : StV K enc w A n c qs) {i : Nat} {q : α} (hq : qs[i]? = some q) {v0 : Value} (h0 : (enc q)[0]? = some v0) :
    ∃ (a : Addr) (g o : Nat), A = some a ∧ a.add (i * K) = ⟨g, o, none⟩ ∧ ∀ (j : Nat) v, (enc q)[j]? = some v → w.cell? ⟨g, o + j, none⟩ = some v := by
  obtain ⟨a, e, h1⟩ := h.each i q hq
  have h2 := h1 0 v0 h0
  rw [Nat.add_zero] at h2
  have hs : (a.add (i * K)).spot = none := by
    unfold World.cell? at h2
    split at h2
    · split at h2
      · cases h2
      · rename_i hs; simpa using hs
    · cases h2
  obtain ⟨ad, had⟩ : ∃ ad, a.add (i * K) = ad := ⟨_, rfl⟩
  rw [had] at hs
  obtain ⟨g, o, sp⟩ := ad
  simp only at hs
  subst hs
  refine ⟨a, g, o, e, had, fun j v hv => ?_⟩
  have h3 := h1 j v hv
  rw [← add_add', had, Ord.add_at] at h3
  exact h3
def stRowT {α : Type} (K : Nat) (enc : α → List Value) (A : Option Addr) (n c : Nat) (qs : List α) : Thing where
  I := fun w => StV K enc w A n c qs ∧ ∀ a, A = some a → a.block < w.heap.size
  F := fun k => ∃ a, A = some a ∧ a.block = k
  keep := fun w w' H h hk hf => ⟨h.1.keep hk (fun a e => hf _ ⟨a, e, rfl⟩), fun a e => Nat.lt_of_lt_of_le (h.2 a e) hk.size⟩
  lt := fun w h k hk => by
    obtain ⟨a, e, rfl⟩ := hk
    exact h.2 a e
theorem strI {α : Type} {K : Nat} {enc : α → List Value} {w : World} {A : Option Addr} {n c : Nat} {qs : List α} (h : (stRowT K enc A n c qs).I w) : StV K enc w A n c qs := h.1
/-- What a row of structs of one's own is. -/
theorem st_own {α : Type} {K : Nat} {enc : α → List Value} (hK : ∀ q, (enc q).length = K) {w : World} {base : Nat} {e : TypeId} {v : Value} {n : Nat} {qs : List α} (h : w.ownsRow base e K v n (qs.flatMap enc)) (hl : qs.length = n) :
    ∃ A cap, v = .slice A n cap ∧ (stRowT K enc A n cap qs).I w ∧ ∀ k, (stRowT K enc A n cap qs).F k → base ≤ k := by
  have hge := own_ge h
  rcases h.2 with ⟨h1, h2⟩ | ⟨g, cap, cur, h1, h2, h3, h4, h5, h6, h7⟩
  · subst h2
    refine ⟨none, 0, by rw [h1], ⟨⟨fun _ => ⟨rfl, rfl⟩, Nat.le_refl _, by decide, hl, fun i q hq => ?_⟩, (fun a e => by cases e)⟩, (fun k hk => by obtain ⟨a, e, _⟩ := hk; cases e)⟩
    have := (List.getElem?_eq_some_iff.1 hq).1
    omega
  · subst h1
    have hg : g < w.heap.size := own_lt h rfl
    refine ⟨some ⟨g, 0, none⟩, cap, rfl, ⟨⟨(fun e => by cases e), h4, by assumption, hl, fun i q hq => ⟨_, rfl, fun j v hv => h.cells (g := g) rfl _ _ (flat_get hK hq hv)⟩⟩, (fun a e => by injection e with e; subst e; exact hg)⟩, fun k hk => ?_⟩
    obtain ⟨a, e, rfl⟩ := hk
    injection e with e
    subst e
    exact hge g rfl
theorem st_nil {α : Type} (K : Nat) (enc : α → List Value) (w : World) : (stRowT K enc none 0 0 ([] : List α)).I w :=
  ⟨⟨fun _ => ⟨rfl, rfl⟩, Nat.le_refl _, by decide, rfl, fun i q hq => by simp at hq⟩, fun a e => by cases e⟩
end Go.Proofs.YtkflggojiiebeaaGreat.Lw

namespace Go.Proofs.YtkflggojiiebeaaGreat.Wid
open Go.RowKit

theorem ret_agg {a b c d : Int} (h : a = b) (g : c = d) : Ending.returned (.agg #[.int .i64 a, .int .u64 c]) = .returned (.agg #[.int .i64 b, .int .u64 d]) := by rw [h, g]
theorem ret_wide {a b c d : Int} {p q : Bool} (h : a = b) (g : c = d) (k : p = q) : Ending.returned (.tuple #[.agg #[.int .i64 a, .int .u64 c], .bool p]) = .returned (.tuple #[.agg #[.int .i64 b, .int .u64 d], .bool q]) := by rw [h, g, k]
theorem ret_int_bool {a b : Int} {p q : Bool} (h : a = b) (k : p = q) : Ending.returned (.tuple #[.int .i64 a, .bool p]) = .returned (.tuple #[.int .i64 b, .bool q]) := by rw [h, k]

/-- The number that a pair is. -/
def vl (p q : Int) : Int := p * 18446744073709551616 + q
def fit (z : Int) : Bool := decide (-170141183460469231731687303715884105728 ≤ z ∧ z < 170141183460469231731687303715884105728)
def fh (z : Int) : Int := if fit z = true then z / 18446744073709551616 else 0
def fl (z : Int) : Int := if fit z = true then z % 18446744073709551616 else 0
def fit64 (z : Int) : Bool := decide (-9223372036854775808 ≤ z ∧ z < 9223372036854775808)
def f64 (z : Int) : Int := if fit64 z = true then z else 0

theorem fit_yes {z : Int} (h0 : -170141183460469231731687303715884105728 ≤ z) (h1 : z < 170141183460469231731687303715884105728) : fit z = true ∧ fh z = z / 18446744073709551616 ∧ fl z = z % 18446744073709551616 := by
  have h : fit z = true := by unfold fit; simp; omega
  exact ⟨h, by unfold fh; rw [if_pos h], by unfold fl; rw [if_pos h]⟩
theorem fit_no {z : Int} (h : ¬ (-170141183460469231731687303715884105728 ≤ z ∧ z < 170141183460469231731687303715884105728)) : fit z = false ∧ fh z = 0 ∧ fl z = 0 := by
  have h : fit z = false := by unfold fit; simp; omega
  exact ⟨h, by unfold fh; rw [if_neg (by simp [h])], by unfold fl; rw [if_neg (by simp [h])]⟩
theorem fit64_yes {z : Int} (h0 : -9223372036854775808 ≤ z) (h1 : z < 9223372036854775808) : fit64 z = true ∧ f64 z = z := by
  have h : fit64 z = true := by unfold fit64; simp; omega
  exact ⟨h, by unfold f64; rw [if_pos h]⟩
theorem fit64_no {z : Int} (h : ¬ (-9223372036854775808 ≤ z ∧ z < 9223372036854775808)) : fit64 z = false ∧ f64 z = 0 := by
  have h : fit64 z = false := by unfold fit64; simp; omega
  exact ⟨h, by unfold f64; rw [if_neg (by simp [h])]⟩
theorem fh_bd (z : Int) : -9223372036854775808 ≤ fh z ∧ fh z ≤ 9223372036854775807 := by
  by_cases h : -170141183460469231731687303715884105728 ≤ z ∧ z < 170141183460469231731687303715884105728
  · rw [(fit_yes h.1 h.2).2.1]; omega
  · rw [(fit_no h).2.1]; omega
theorem fl_bd (z : Int) : 0 ≤ fl z ∧ fl z ≤ 18446744073709551615 := by
  by_cases h : -170141183460469231731687303715884105728 ≤ z ∧ z < 170141183460469231731687303715884105728
  · rw [(fit_yes h.1 h.2).2.2]; omega
  · rw [(fit_no h).2.2]; omega
/-- The pair of what fits is that number. -/
theorem vl_fit (z : Int) (h0 : -170141183460469231731687303715884105728 ≤ z) (h1 : z < 170141183460469231731687303715884105728) : vl (fh z) (fl z) = z := by
  rw [(fit_yes h0 h1).2.1, (fit_yes h0 h1).2.2]; unfold vl; omega
theorem wrap_bv (x : BitVec 64) : IntKind.i64.wrap (x.toNat : Int) = x.toInt := by
  have h := x.isLt
  rw [IntKind.wrap_i64, BitVec.toInt_eq_toNat_cond]
  split <;> omega
theorem bv_neg (x : BitVec 64) : (x.toInt < 0) ↔ x.msb = true := by
  rw [BitVec.msb_eq_toInt]; simp
theorem bv_of (a : Int) (h0 : -9223372036854775808 ≤ a) (h1 : a ≤ 9223372036854775807) : (BitVec.ofInt 64 a).toInt = a := by
  rw [BitVec.toInt_ofInt]; simp [Int.bmod]; omega
theorem xor_i64 (a b : Int) : bits .xor .i64 a b = (BitVec.ofInt 64 a ^^^ BitVec.ofInt 64 b).toInt := wrap_bv _
theorem and_i64 (a b : Int) : bits .and .i64 a b = (BitVec.ofInt 64 a &&& BitVec.ofInt 64 b).toInt := wrap_bv _
theorem bv_bd (x : BitVec 64) : -9223372036854775808 ≤ x.toInt ∧ x.toInt ≤ 9223372036854775807 := by
  have := BitVec.toInt_lt (x := x); have := BitVec.le_toInt x; omega
theorem sgn (a b c d : Int) (a0 : -9223372036854775808 ≤ a) (a1 : a ≤ 9223372036854775807) (b0 : -9223372036854775808 ≤ b) (b1 : b ≤ 9223372036854775807)
    (c0 : -9223372036854775808 ≤ c) (c1 : c ≤ 9223372036854775807) (d0 : -9223372036854775808 ≤ d) (d1 : d ≤ 9223372036854775807) :
    (bits .and .i64 (bits .xor .i64 a b) (bits .xor .i64 c d) < 0) ↔ ((a < 0 ∧ 0 ≤ b ∨ 0 ≤ a ∧ b < 0) ∧ (c < 0 ∧ 0 ≤ d ∨ 0 ≤ c ∧ d < 0)) := by
  rw [and_i64, bv_neg, BitVec.msb_and, Bool.and_eq_true, xor_i64, xor_i64, ← bv_neg, ← bv_neg, bv_of _ (bv_bd _).1 (bv_bd _).2, bv_of _ (bv_bd _).1 (bv_bd _).2, bv_neg, bv_neg, BitVec.msb_xor, BitVec.msb_xor]
  have ea := bv_neg (BitVec.ofInt 64 a)
  have eb := bv_neg (BitVec.ofInt 64 b)
  have ec := bv_neg (BitVec.ofInt 64 c)
  have ed := bv_neg (BitVec.ofInt 64 d)
  rw [bv_of a a0 a1] at ea
  rw [bv_of b b0 b1] at eb
  rw [bv_of c c0 c1] at ec
  rw [bv_of d d0 d1] at ed
  generalize (BitVec.ofInt 64 a).msb = x at *
  generalize (BitVec.ofInt 64 b).msb = y at *
  generalize (BitVec.ofInt 64 c).msb = z at *
  generalize (BitVec.ofInt 64 d).msb = u at *
  cases x <;> cases y <;> cases z <;> cases u <;> simp at * <;> omega

def dg (x : Int) (i : Nat) : Int := x / (65536 ^ i) % 65536
end Go.Proofs.YtkflggojiiebeaaGreat.Wid

namespace Go.Proofs.YtkflggojiiebeaaGreat.Wid
open Go.RowKit
set_option linter.unusedVariables false

theorem of_vals (n : Int) (h0 : -9223372036854775808 ≤ n) (h1 : n ≤ 9223372036854775807) : n / 9223372036854775808 = fh n ∧ IntKind.u64.wrap n = fl n := by
  rw [(fit_yes (z := n) (by omega) (by omega)).2.1, (fit_yes (z := n) (by omega) (by omega)).2.2, IntKind.wrap_u64]; omega
theorem u64_bd (x : Int) : 0 ≤ IntKind.u64.wrap x ∧ IntKind.u64.wrap x ≤ 18446744073709551615 := by rw [IntKind.wrap_u64]; omega
theorem hi_bd (x : Int) : -9223372036854775808 ≤ wrap64 x ∧ wrap64 x ≤ 9223372036854775807 ∧ (wrap64 x - x) % 18446744073709551616 = 0 := by unfold wrap64; omega
theorem add_far (p q r s : Int) (p0 : -9223372036854775808 ≤ p) (p1 : p ≤ 9223372036854775807) (q0 : 0 ≤ q) (q1 : q ≤ 18446744073709551615)
    (r0 : -9223372036854775808 ≤ r) (r1 : r ≤ 9223372036854775807) (s0 : 0 ≤ s) (s1 : s ≤ 18446744073709551615)
    (h : bits .and .i64 (bits .xor .i64 p (wrap64 ((IntKind.u64.wrap p + IntKind.u64.wrap r + (q + s) / 18446744073709551616) % 18446744073709551616))) (bits .xor .i64 r (wrap64 ((IntKind.u64.wrap p + IntKind.u64.wrap r + (q + s) / 18446744073709551616) % 18446744073709551616))) < 0) :
    0 = fh (vl p q + vl r s) ∧ 0 = fl (vl p q + vl r s) ∧ false = fit (vl p q + vl r s) := by
  have hh := hi_bd ((IntKind.u64.wrap p + IntKind.u64.wrap r + (q + s) / 18446744073709551616) % 18446744073709551616)
  rw [sgn _ _ _ _ p0 p1 hh.1 hh.2.1 r0 r1 hh.1 hh.2.1] at h
  generalize wrap64 ((IntKind.u64.wrap p + IntKind.u64.wrap r + (q + s) / 18446744073709551616) % 18446744073709551616) = H at *
  rw [IntKind.wrap_u64, IntKind.wrap_u64] at hh
  have := fit_no (z := vl p q + vl r s) (by unfold vl; omega)
  exact ⟨this.2.1.symm, this.2.2.symm, this.1.symm⟩
theorem add_near (p q r s : Int) (p0 : -9223372036854775808 ≤ p) (p1 : p ≤ 9223372036854775807) (q0 : 0 ≤ q) (q1 : q ≤ 18446744073709551615)
    (r0 : -9223372036854775808 ≤ r) (r1 : r ≤ 9223372036854775807) (s0 : 0 ≤ s) (s1 : s ≤ 18446744073709551615)
    (h : 0 ≤ bits .and .i64 (bits .xor .i64 p (wrap64 ((IntKind.u64.wrap p + IntKind.u64.wrap r + (q + s) / 18446744073709551616) % 18446744073709551616))) (bits .xor .i64 r (wrap64 ((IntKind.u64.wrap p + IntKind.u64.wrap r + (q + s) / 18446744073709551616) % 18446744073709551616)))) :
    wrap64 ((IntKind.u64.wrap p + IntKind.u64.wrap r + (q + s) / 18446744073709551616) % 18446744073709551616) = fh (vl p q + vl r s) ∧ (q + s) % 18446744073709551616 = fl (vl p q + vl r s) ∧ true = fit (vl p q + vl r s) := by
  have hh := hi_bd ((IntKind.u64.wrap p + IntKind.u64.wrap r + (q + s) / 18446744073709551616) % 18446744073709551616)
  have hx := sgn p _ r _ p0 p1 hh.1 hh.2.1 r0 r1 hh.1 hh.2.1
  generalize wrap64 ((IntKind.u64.wrap p + IntKind.u64.wrap r + (q + s) / 18446744073709551616) % 18446744073709551616) = H at *
  rw [IntKind.wrap_u64, IntKind.wrap_u64] at hh
  generalize bits .and .i64 (bits .xor .i64 p H) (bits .xor .i64 r H) = X at *
  have := fit_yes (z := vl p q + vl r s) (by unfold vl; omega) (by unfold vl; omega)
  rw [this.1, this.2.1, this.2.2]; unfold vl
  exact ⟨by omega, by omega, rfl⟩
theorem sub_far (p q r s : Int) (p0 : -9223372036854775808 ≤ p) (p1 : p ≤ 9223372036854775807) (q0 : 0 ≤ q) (q1 : q ≤ 18446744073709551615)
    (r0 : -9223372036854775808 ≤ r) (r1 : r ≤ 9223372036854775807) (s0 : 0 ≤ s) (s1 : s ≤ 18446744073709551615)
    (h : bits .and .i64 (bits .xor .i64 p r) (bits .xor .i64 p (wrap64 ((IntKind.u64.wrap p - IntKind.u64.wrap r + (q - s) / 18446744073709551616) % 18446744073709551616))) < 0) :
    0 = fh (vl p q - vl r s) ∧ 0 = fl (vl p q - vl r s) ∧ false = fit (vl p q - vl r s) := by
  have hh := hi_bd ((IntKind.u64.wrap p - IntKind.u64.wrap r + (q - s) / 18446744073709551616) % 18446744073709551616)
  rw [sgn _ _ _ _ p0 p1 r0 r1 p0 p1 hh.1 hh.2.1] at h
  generalize wrap64 ((IntKind.u64.wrap p - IntKind.u64.wrap r + (q - s) / 18446744073709551616) % 18446744073709551616) = H at *
  rw [IntKind.wrap_u64, IntKind.wrap_u64] at hh
  have := fit_no (z := vl p q - vl r s) (by unfold vl; omega)
  exact ⟨this.2.1.symm, this.2.2.symm, this.1.symm⟩
theorem sub_near (p q r s : Int) (p0 : -9223372036854775808 ≤ p) (p1 : p ≤ 9223372036854775807) (q0 : 0 ≤ q) (q1 : q ≤ 18446744073709551615)
    (r0 : -9223372036854775808 ≤ r) (r1 : r ≤ 9223372036854775807) (s0 : 0 ≤ s) (s1 : s ≤ 18446744073709551615)
    (h : 0 ≤ bits .and .i64 (bits .xor .i64 p r) (bits .xor .i64 p (wrap64 ((IntKind.u64.wrap p - IntKind.u64.wrap r + (q - s) / 18446744073709551616) % 18446744073709551616)))) :
    wrap64 ((IntKind.u64.wrap p - IntKind.u64.wrap r + (q - s) / 18446744073709551616) % 18446744073709551616) = fh (vl p q - vl r s) ∧ (q - s) % 18446744073709551616 = fl (vl p q - vl r s) ∧ true = fit (vl p q - vl r s) := by
  have hh := hi_bd ((IntKind.u64.wrap p - IntKind.u64.wrap r + (q - s) / 18446744073709551616) % 18446744073709551616)
  have hx := sgn p r p _ p0 p1 r0 r1 p0 p1 hh.1 hh.2.1
  generalize wrap64 ((IntKind.u64.wrap p - IntKind.u64.wrap r + (q - s) / 18446744073709551616) % 18446744073709551616) = H at *
  rw [IntKind.wrap_u64, IntKind.wrap_u64] at hh
  generalize bits .and .i64 (bits .xor .i64 p r) (bits .xor .i64 p H) = X at *
  have := fit_yes (z := vl p q - vl r s) (by unfold vl; omega) (by unfold vl; omega)
  rw [this.1, this.2.1, this.2.2]; unfold vl
  exact ⟨by omega, by omega, rfl⟩

theorem below_box {w w' : World} {o : Obj} (h : Below (w.heap.size + 1) (w.alloc o) w') : Below w.heap.size w w' :=
  ((Below.refl _ _).alloc (Nat.le_refl _) _).trans (h.mono (by omega))
theorem below_call {B : Nat} {W0 wa w1 : World} (h : Below B W0 wa) (hb : Below wa.heap.size wa w1) (hB : B ≤ W0.heap.size) : Below B W0 w1 :=
  h.trans (hb.mono (Nat.le_trans hB h.size))
theorem int_vals (p q : Int) (p0 : -9223372036854775808 ≤ p) (p1 : p ≤ 9223372036854775807) (q0 : 0 ≤ q) (q1 : q ≤ 18446744073709551615) :
    (fh (wrap64 q) = p ∧ fl (wrap64 q) = q → fit64 (vl p q) = true ∧ f64 (vl p q) = wrap64 q) ∧ (¬ (fh (wrap64 q) = p ∧ fl (wrap64 q) = q) → fit64 (vl p q) = false ∧ f64 (vl p q) = 0) := by
  have hh := hi_bd q
  have hf := fit_yes (z := wrap64 q) (by omega) (by omega)
  rw [hf.2.1, hf.2.2]
  generalize wrap64 q = n at *
  constructor
  · intro h
    have := fit64_yes (z := vl p q) (by unfold vl; omega) (by unfold vl; omega)
    refine ⟨this.1, ?_⟩
    rw [this.2]; unfold vl; omega
  · intro h
    exact fit64_no (by unfold vl; omega)
theorem plus_vals (a b : Int) (a0 : -9223372036854775808 ≤ a) (a1 : a ≤ 9223372036854775807) (b0 : -9223372036854775808 ≤ b) (b1 : b ≤ 9223372036854775807) :
    vl (fh (vl (fh a) (fl a) + vl (fh b) (fl b))) (fl (vl (fh a) (fl a) + vl (fh b) (fl b))) = a + b ∧ vl (fh (vl (fh a) (fl a) - vl (fh b) (fl b))) (fl (vl (fh a) (fl a) - vl (fh b) (fl b))) = a - b := by
  rw [vl_fit a (by omega) (by omega), vl_fit b (by omega) (by omega), vl_fit _ (by omega) (by omega), vl_fit _ (by omega) (by omega)]
  exact ⟨rfl, rfl⟩
theorem below_alloc {w w' : World} (h : Below w.heap.size w w') (o : Obj) : Below w.heap.size w (w'.alloc o) := h.alloc h.size o
end Go.Proofs.YtkflggojiiebeaaGreat.Wid

namespace Go.Proofs.YtkflggojiiebeaaGreat.Wid
open Go.RowKit
set_option linter.unusedVariables false

theorem run_add64 (x y c : Int) (w : World) (x0 : 0 ≤ x) (y0 : 0 ≤ y) (c0 : 0 ≤ c) (c1 : c ≤ 1) :
    (callFunc 128 #[.int .u64 x, .int .u64 y, .int .u64 c]).run Tryz.prog w =
      .ok (.value (.tuple #[.int .u64 ((x + y + c) % 18446744073709551616), .int .u64 ((x + y + c) / 18446744073709551616)])) w := by
  rw [run_callFunc_extern Tryz.func128 (by kernel_rfl) (by kernel_rfl) (by kernel_rfl) (e := add64Entry) (by kernel_rfl), Go.run_add64 x y c x0 y0 c0 c1]
  rfl
theorem run_add64_0 (x y : Int) (w : World) (x0 : 0 ≤ x) (y0 : 0 ≤ y) :
    (callFunc 128 #[.int .u64 x, .int .u64 y, .int .u64 0]).run Tryz.prog w =
      .ok (.value (.tuple #[.int .u64 ((x + y) % 18446744073709551616), .int .u64 ((x + y) / 18446744073709551616)])) w := by
  rw [run_add64 x y 0 w x0 y0 (by omega) (by omega), Int.add_zero]
theorem add_any (p q r s : Int) (w : World) (p0 : -9223372036854775808 ≤ p) (p1 : p ≤ 9223372036854775807) (q0 : 0 ≤ q) (q1 : q ≤ 18446744073709551615)
    (r0 : -9223372036854775808 ≤ r) (r1 : r ≤ 9223372036854775807) (s0 : 0 ≤ s) (s1 : s ≤ 18446744073709551615) :
    Calls Tryz.prog 98 #[.agg #[.int .i64 p, .int .u64 q], .agg #[.int .i64 r, .int .u64 s]] w fun e w' => e = .returned (.tuple #[.agg #[.int .i64 (fh (vl p q + vl r s)), .int .u64 (fl (vl p q + vl r s))], .bool (fit (vl p q + vl r s))]) ∧ Below w.heap.size w w' := by
  have k0 : 0 ≤ (q + s) / 18446744073709551616 := by omega
  have k1 : (q + s) / 18446744073709551616 ≤ 1 := by omega
  go_enter Tryz.func98, Tryz.ntmps98
  go_wp2_with (first | simp only [run_add64_0 q s _ q0 s0] | simp only [run_add64 _ _ _ _ (u64_bd p).1 (u64_bd r).1 k0 k1])
  · have h := add_far p q r s p0 p1 q0 q1 r0 r1 s0 s1 (by assumption)
    go_returns
    exact ⟨ret_wide h.1 h.2.1 h.2.2, by go_grown⟩
  · have h := add_near p q r s p0 p1 q0 q1 r0 r1 s0 s1 (by assumption)
    go_returns
    exact ⟨ret_wide h.1 h.2.1 h.2.2, by go_grown⟩
end Go.Proofs.YtkflggojiiebeaaGreat.Wid

namespace Go.Proofs.YtkflggojiiebeaaGreat.Wid
open Go.RowKit
def dl (z : Int) : List Int := [dg z 0, dg z 1, dg z 2, dg z 3, dg z 4, dg z 5, dg z 6, dg z 7, dg z 8, dg z 9]
end Go.Proofs.YtkflggojiiebeaaGreat.Wid

namespace Go.Proofs.YtkflggojiiebeaaGreat.Wid
open Go.RowKit
theorem bcell {W w1 : World} (hb : Below W.heap.size W w1) : (∀ b o, b < W.heap.size → w1.cell? ⟨b, o, none⟩ = W.cell? ⟨b, o, none⟩) ∧ (∀ b o, b < W.heap.size → w1.frozen? ⟨b, o, none⟩ = W.frozen? ⟨b, o, none⟩) :=
  ⟨fun b o h => hb.cell (p := ⟨b, o, none⟩) h, fun b o h => hb.frozen (p := ⟨b, o, none⟩) h⟩
theorem cell_lt {w : World} {a : Addr} {v : Value} (h : w.cell? a = some v) : a.block < w.heap.size := by
  rcases Nat.lt_or_ge a.block w.heap.size with h1 | h1
  · exact h1
  · have : w.heap[a.block]? = none := by simp [h1]
    simp [World.cell?, this] at h
def nn (z : Int) : Int := IntKind.i64.wrap (z % 18446744073709551616)
def hh (z : Int) : Int := IntKind.i64.wrap (z / 18446744073709551616 % 18446744073709551616)
end Go.Proofs.YtkflggojiiebeaaGreat.Wid

namespace Go.Proofs.YtkflggojiiebeaaGreat.Wid
open Go.RowKit
set_option linter.unusedVariables false

theorem of_any (n : Int) (w : World) (h0 : -9223372036854775808 ≤ n) (h1 : n ≤ 9223372036854775807) :
    Calls Tryz.prog 100 #[.int .i64 n] w fun e w' => e = .returned (.agg #[.int .i64 (fh n), .int .u64 (fl n)]) ∧ Below w.heap.size w w' := by
  have H := Lib.hid (of_vals n h0 h1)
  go_enter Tryz.func100, Tryz.ntmps100
  go_wp2
  go_returns
  exact ⟨ret_agg H.out.1 H.out.2, by go_grown⟩
end Go.Proofs.YtkflggojiiebeaaGreat.Wid

namespace Go.Proofs.YtkflggojiiebeaaGreat.Wid
open Go.RowKit
set_option linter.unusedVariables false

theorem int_any (p q : Int) (w : World) (p0 : -9223372036854775808 ≤ p) (p1 : p ≤ 9223372036854775807) (q0 : 0 ≤ q) (q1 : q ≤ 18446744073709551615) :
    Calls Tryz.prog 116 #[.agg #[.int .i64 p, .int .u64 q]] w fun e w' => e = .returned (.tuple #[.int .i64 (f64 (vl p q)), .bool (fit64 (vl p q))]) ∧ Below w.heap.size w w' := by
  have hv := int_vals p q p0 p1 q0 q1
  have hc0 : ∀ w', Below (w.heap.size + 1) (w.alloc (.cells #[.int .i64 p, .int .u64 q] 192)) w' → w'.cell? ⟨w.heap.size, 0, none⟩ = some (.int .i64 p) := fun w' h => (h.cell (by simp)).trans (by simp [go_sem])
  have hc1 : ∀ w', Below (w.heap.size + 1) (w.alloc (.cells #[.int .i64 p, .int .u64 q] 192)) w' → w'.cell? ⟨w.heap.size, 1, none⟩ = some (.int .u64 q) := fun w' h => (h.cell (by simp)).trans (by simp [go_sem])
  by_cases h1 : fh (wrap64 q) = p
  · have e1 : (fh (wrap64 q) == p) = true := by simpa using h1
    by_cases h2 : fl (wrap64 q) = q
    · have H := Lib.hid (hv.1 ⟨h1, h2⟩)
      have e2 : (fl (wrap64 q) == q) = true := by simpa using h2
      clear hv h1 h2
      go_enter Tryz.func116, Tryz.ntmps116
      go_wp2
      go_region_held3 (fun w' => Below (w.heap.size + 1) (w.alloc (.cells #[.int .i64 p, .int .u64 q] 192)) w') (first | exact (Below.refl _ _).drew | exact below_call (by assumption) hb (by simp))
       (first | (go_at_call 100; refine (of_any _ _ (hi_bd _).1 (hi_bd _).2.1).mono ?_; rintro e w' ⟨rfl, hb⟩))
      go_wp2
      go_ret2
      exact ⟨ret_int_bool H.out.2.symm H.out.1.symm, below_box (by assumption)⟩
    · have H := Lib.hid (hv.2 (fun h => h2 h.2))
      have e2 : (fl (wrap64 q) == q) = false := by simpa using h2
      clear hv h1 h2
      go_enter Tryz.func116, Tryz.ntmps116
      go_wp2
      go_region_held3 (fun w' => Below (w.heap.size + 1) (w.alloc (.cells #[.int .i64 p, .int .u64 q] 192)) w') (first | exact (Below.refl _ _).drew | exact below_call (by assumption) hb (by simp))
       (first | (go_at_call 100; refine (of_any _ _ (hi_bd _).1 (hi_bd _).2.1).mono ?_; rintro e w' ⟨rfl, hb⟩))
      go_wp2
      go_ret2
      exact ⟨ret_int_bool H.out.2.symm H.out.1.symm, below_box (by assumption)⟩
  · have H := Lib.hid (hv.2 (fun h => h1 h.1))
    have e1 : (fh (wrap64 q) == p) = false := by simpa using h1
    clear hv h1
    go_enter Tryz.func116, Tryz.ntmps116
    go_wp2
    go_region_held3 (fun w' => Below (w.heap.size + 1) (w.alloc (.cells #[.int .i64 p, .int .u64 q] 192)) w') (first | exact (Below.refl _ _).drew | exact below_call (by assumption) hb (by simp))
     (first | (go_at_call 100; refine (of_any _ _ (hi_bd _).1 (hi_bd _).2.1).mono ?_; rintro e w' ⟨rfl, hb⟩))
    go_wp2
    go_ret2
    exact ⟨ret_int_bool H.out.2.symm H.out.1.symm, below_box (by assumption)⟩
end Go.Proofs.YtkflggojiiebeaaGreat.Wid

namespace Go.Proofs.YtkflggojiiebeaaGreat.Wid
open Go.RowKit
set_option linter.unusedVariables false

theorem plus_any (a b : Int) (w : World) (a0 : -9223372036854775808 ≤ a) (a1 : a ≤ 9223372036854775807) (b0 : -9223372036854775808 ≤ b) (b1 : b ≤ 9223372036854775807) :
    Calls Tryz.prog 203 #[.int .i64 a, .int .i64 b] w fun e w' => e = .returned (.tuple #[.int .i64 (f64 (a + b)), .bool (fit64 (a + b))]) ∧ Below w.heap.size w w' := by
  have H := Lib.hid (plus_vals a b a0 a1 b0 b1).1
  go_enter Tryz.func203, Tryz.ntmps203
  go_wp2_with (first
    | (go_at_call 100; refine (of_any _ _ (by omega) (by omega)).mono ?_; rintro e w' ⟨rfl, hb⟩)
    | (go_at_call 98; refine (add_any _ _ _ _ _ (fh_bd _).1 (fh_bd _).2 (fl_bd _).1 (fl_bd _).2 (fh_bd _).1 (fh_bd _).2 (fl_bd _).1 (fl_bd _).2).mono ?_; rintro e w' ⟨rfl, hb⟩)
    | (go_at_call 116; refine (int_any _ _ _ (fh_bd _).1 (fh_bd _).2 (fl_bd _).1 (fl_bd _).2).mono ?_; rintro e w' ⟨rfl, hb⟩))
  go_ret2
  refine ⟨ret_int_bool (by rw [H.out]) (by rw [H.out]), ?_⟩
  repeat' (first | (with_reducible exact Below.refl _ _) | (with_reducible refine below_call ?_ (by with_reducible assumption) (Nat.le_refl _)) | (with_reducible refine below_alloc ?_ _) | (with_reducible refine Below.drew ?_) | (with_reducible refine Below.setCell ?_ ?_ _))
end Go.Proofs.YtkflggojiiebeaaGreat.Wid

namespace Go.Proofs.YtkflggojiiebeaaGreat.Wid
open Go.RowKit
set_option linter.unusedVariables false

theorem run_sub64 (x y c : Int) (w : World) (x0 : 0 ≤ x) (x1 : x ≤ 18446744073709551615) (y0 : 0 ≤ y) (y1 : y ≤ 18446744073709551615) (c0 : 0 ≤ c) (c1 : c ≤ 1) :
    (callFunc 154 #[.int .u64 x, .int .u64 y, .int .u64 c]).run Tryz.prog w =
      .ok (.value (.tuple #[.int .u64 ((x - y - c) % 18446744073709551616), .int .u64 (-((x - y - c) / 18446744073709551616))])) w := by
  obtain ⟨X, rfl⟩ := Int.eq_ofNat_of_zero_le x0
  obtain ⟨Y, rfl⟩ := Int.eq_ofNat_of_zero_le y0
  obtain ⟨C, rfl⟩ := Int.eq_ofNat_of_zero_le c0
  rw [run_callFunc_extern Tryz.func154 (by kernel_rfl) (by kernel_rfl) (by kernel_rfl) (e := Go.Proofs.sub64Entry) (by kernel_rfl), Go.Proofs.run_sub64 X Y C (by omega)]
  simp only [Result.andThen]
  have e1 : (((X + 18446744073709551616 - Y - C) % 18446744073709551616 : Nat) : Int) = ((X : Int) - Y - C) % 18446744073709551616 := by omega
  have e2 : ((if X < Y + C then 1 else 0 : Nat) : Int) = -(((X : Int) - Y - C) / 18446744073709551616) := by split <;> omega
  rw [e1, e2]
theorem run_sub64_0 (x y : Int) (w : World) (x0 : 0 ≤ x) (x1 : x ≤ 18446744073709551615) (y0 : 0 ≤ y) (y1 : y ≤ 18446744073709551615) :
    (callFunc 154 #[.int .u64 x, .int .u64 y, .int .u64 0]).run Tryz.prog w =
      .ok (.value (.tuple #[.int .u64 ((x - y) % 18446744073709551616), .int .u64 (-((x - y) / 18446744073709551616))])) w := by
  rw [run_sub64 x y 0 w x0 x1 y0 y1 (by omega) (by omega), Int.sub_zero]

theorem sub_any (p q r s : Int) (w : World) (p0 : -9223372036854775808 ≤ p) (p1 : p ≤ 9223372036854775807) (q0 : 0 ≤ q) (q1 : q ≤ 18446744073709551615)
    (r0 : -9223372036854775808 ≤ r) (r1 : r ≤ 9223372036854775807) (s0 : 0 ≤ s) (s1 : s ≤ 18446744073709551615) :
    Calls Tryz.prog 129 #[.agg #[.int .i64 p, .int .u64 q], .agg #[.int .i64 r, .int .u64 s]] w fun e w' => e = .returned (.tuple #[.agg #[.int .i64 (fh (vl p q - vl r s)), .int .u64 (fl (vl p q - vl r s))], .bool (fit (vl p q - vl r s))]) ∧ Below w.heap.size w w' := by
  have k0 : 0 ≤ -((q - s) / 18446744073709551616) := by omega
  have k1 : -((q - s) / 18446744073709551616) ≤ 1 := by omega
  go_enter Tryz.func129, Tryz.ntmps129
  go_wp2_with (first | simp only [run_sub64_0 q s _ q0 q1 s0 s1] | simp only [run_sub64 _ _ _ _ (u64_bd p).1 (u64_bd p).2 (u64_bd r).1 (u64_bd r).2 k0 k1])
  · have h := sub_far p q r s p0 p1 q0 q1 r0 r1 s0 s1 (by assumption)
    go_returns
    exact ⟨ret_wide h.1 h.2.1 h.2.2, by go_grown⟩
  · have h := sub_near p q r s p0 p1 q0 q1 r0 r1 s0 s1 (by assumption)
    go_returns
    exact ⟨ret_wide h.1 h.2.1 h.2.2, by go_grown⟩
end Go.Proofs.YtkflggojiiebeaaGreat.Wid

namespace Go.Proofs.YtkflggojiiebeaaGreat.Wid
open Go.RowKit
set_option linter.unusedVariables false

theorem minus_any (a b : Int) (w : World) (a0 : -9223372036854775808 ≤ a) (a1 : a ≤ 9223372036854775807) (b0 : -9223372036854775808 ≤ b) (b1 : b ≤ 9223372036854775807) :
    Calls Tryz.prog 145 #[.int .i64 a, .int .i64 b] w fun e w' => e = .returned (.tuple #[.int .i64 (f64 (a - b)), .bool (fit64 (a - b))]) ∧ Below w.heap.size w w' := by
  have H := Lib.hid (plus_vals a b a0 a1 b0 b1).2
  go_enter Tryz.func145, Tryz.ntmps145
  go_wp2_with (first
    | (go_at_call 100; refine (of_any _ _ (by omega) (by omega)).mono ?_; rintro e w' ⟨rfl, hb⟩)
    | (go_at_call 129; refine (sub_any _ _ _ _ _ (fh_bd _).1 (fh_bd _).2 (fl_bd _).1 (fl_bd _).2 (fh_bd _).1 (fh_bd _).2 (fl_bd _).1 (fl_bd _).2).mono ?_; rintro e w' ⟨rfl, hb⟩)
    | (go_at_call 116; refine (int_any _ _ _ (fh_bd _).1 (fh_bd _).2 (fl_bd _).1 (fl_bd _).2).mono ?_; rintro e w' ⟨rfl, hb⟩))
  go_ret2
  refine ⟨ret_int_bool (by rw [H.out]) (by rw [H.out]), ?_⟩
  repeat' (first | (with_reducible exact Below.refl _ _) | (with_reducible refine below_call ?_ (by with_reducible assumption) (Nat.le_refl _)) | (with_reducible refine below_alloc ?_ _) | (with_reducible refine Below.drew ?_) | (with_reducible refine Below.setCell ?_ ?_ _))
end Go.Proofs.YtkflggojiiebeaaGreat.Wid

namespace Go.Proofs.YtkflggojiiebeaaGreat.Wid
open Go.RowKit
set_option linter.unusedVariables false
def RdI (w : World) (A : Option Addr) (zs : List Int) : Prop := ∀ k v, zs[k]? = some v → ∃ ad, A = some ad ∧ w.cell? (ad.add k) = some (.int .i64 v)
def In64 (zs : List Int) : Prop := ∀ v ∈ zs, -9223372036854775808 ≤ v ∧ v ≤ 9223372036854775807
theorem sum_snoc (l : List Int) (x : Int) : (l ++ [x]).sum = l.sum + x := by
  induction l with
  | nil => simp
  | cons a l ih => rw [List.cons_append, List.sum_cons, List.sum_cons, ih]; omega
theorem sum_next (zs : List Int) (k : Nat) (hk : k < zs.length) : (zs.take (k + 1)).sum = (zs.take k).sum + zs[k] := by
  rw [List.take_succ_eq_append_getElem hk, sum_snoc]
theorem sum_bd (zs : List Int) (h : In64 zs) : ∀ k : Nat, -9223372036854775808 * (k : Int) ≤ (zs.take k).sum ∧ (zs.take k).sum ≤ 9223372036854775807 * (k : Int) := by
  intro k
  induction k with
  | zero => simp
  | succ k ih =>
    by_cases hk : k < zs.length
    · have e : (zs.take (k + 1)).sum = (zs.take k).sum + zs[k] := sum_next zs k hk
      have hb := h zs[k] (List.getElem_mem hk)
      rw [e]; push_cast; omega
    · have e : zs.take (k + 1) = zs.take k := by rw [List.take_of_length_le (by omega), List.take_of_length_le (by omega)]
      rw [e]; push_cast; omega
theorem cell_on {wa w1 : World} {a : Addr} {v : Value} (hb : Below wa.heap.size wa w1) (h : wa.cell? a = some v) : w1.cell? a = some v := by
  rw [hb.cell (cell_lt h)]; exact h
theorem frozen_on {wa w1 : World} {a : Addr} {v : Value} {b : Bool} (hb : Below wa.heap.size wa w1) (hc : wa.cell? a = some v) (h : wa.frozen? a = b) : w1.frozen? a = b := by
  rw [hb.frozen (cell_lt hc)]; exact h
set_option maxHeartbeats 1000000 in
theorem sum_any (A : Option Addr) (n cap : Nat) (zs : List Int) (w : World) (hr : RdI w A zs) (hl : zs.length = n) (hn : n ≤ 1000) (hz : In64 zs) :
    Calls Tryz.prog 80 #[.slice A n cap] w fun e w' => e = .returned (.tuple #[.int .i64 (f64 zs.sum), .bool (fit64 zs.sum)]) ∧ Below w.heap.size w w' := by
  have HR := Lib.hid hr
  have HL := Lib.hid hl
  have HZ := Lib.hid hz
  clear hr hl hz
  have e00 : fh 0 = 0 := by decide
  have e01 : fl 0 = 0 := by decide
  go_enter Tryz.func80, Tryz.ntmps80
  go_wp2
  go_loopw [9] (fun i wr => ∃ k : Nat, k ≤ n ∧ i = .int .i64 k ∧ Below w.heap.size w wr ∧ wr.cell? ⟨w.heap.size, 0, none⟩ = some (.int .i64 (fh (zs.take k).sum)) ∧ wr.cell? ⟨w.heap.size, 1, none⟩ = some (.int .u64 (fl (zs.take k).sum)) ∧ wr.frozen? ⟨w.heap.size, 0, none⟩ = false ∧ wr.frozen? ⟨w.heap.size, 1, none⟩ = false) (fun i _ => n - (intOf i).toNat)
  case atStart =>
    refine ⟨0, Nat.zero_le _, rfl, by go_grown, ?_, ?_, ?_, ?_⟩
    · simp [go_sem, e00]
    · simp [go_sem, e01]
    · simp [go_sem]
    · simp [go_sem]
  case round =>
    obtain ⟨k, hk, rfl, hbel, hc0, hc1, hf0, hf1⟩ := hrel
    have hsb := sum_bd zs HZ.out k
    obtain ⟨s, hs⟩ : ∃ s, s = (zs.take k).sum := ⟨_, rfl⟩
    rw [← hs] at hc0 hc1 hsb
    have HS := Lib.hid hs
    clear hs e00 e01
    have hvs := vl_fit s (by omega) (by omega)
    by_cases hlt : k < n
    · have hk2 : k < zs.length := by have := HL.out; omega
      obtain ⟨v, hv⟩ : ∃ v, v = zs[k] := ⟨_, rfl⟩
      have hvb := HZ.out v (by rw [hv]; exact List.getElem_mem hk2)
      obtain ⟨ad, rfl, hc⟩ := HR.out k v (by rw [hv]; exact List.getElem?_eq_getElem hk2)
      have hcw : wr.cell? (ad.add k) = some (.int .i64 v) := cell_on hbel hc
      have hvv := vl_fit v (by omega) (by omega)
      have hnext : (zs.take (k + 1)).sum = s + v := by rw [HS.out, hv]; exact sum_next zs k hk2
      have hev : vl (fh s) (fl s) + vl (fh v) (fl v) = s + v := by rw [hvs, hvv]
      have HN := Lib.hid hnext
      have hz2 := cell_lt hc0
      clear hv hc hnext hvs hvv
      go_wp2_with fail
      go_region_with (first
        | (go_at_call 100; (refine (of_any _ _ (by omega) (by omega)).mono ?_); rintro e w1 ⟨rfl, hb1⟩; have h10 := cell_on hb1 hc0; have h11 := cell_on hb1 hc1; have g10 := frozen_on hb1 hc0 hf0; have g11 := frozen_on hb1 hc1 hf1)
        | (go_at_call 98; (refine (add_any _ _ _ _ _ (fh_bd _).1 (fh_bd _).2 (fl_bd _).1 (fl_bd _).2 (fh_bd _).1 (fh_bd _).2 (fl_bd _).1 (fl_bd _).2).mono ?_); rintro e w2 ⟨rfl, hb2⟩; rw [hev]; have h20 := cell_on hb2 h10; have h21 := cell_on hb2 h11; have g20 := frozen_on hb2 h10 g10; have g21 := frozen_on hb2 h11 g11))
      all_goals
        go_wp2
        go_roundw
        case rel =>
          refine ⟨k + 1, by omega, by go_num, ?_, ?_, ?_, ?_, ?_⟩
          · repeat' (first | (with_reducible exact Below.refl _ _) | (with_reducible refine below_call ?_ (by with_reducible assumption) (Nat.le_refl _)) | (with_reducible refine below_alloc ?_ _) | (with_reducible refine Below.drew ?_) | (with_reducible refine below_drewN ?_ _) | (with_reducible refine Below.setCell ?_ ?_ _) | go_size)
          · rw [HN.out]; simp [go_sem, h20]
          · rw [HN.out]; simp [go_sem, h21]
          · simp [go_sem, g20]
          · simp [go_sem, g21]
        case measure => simp [intOf]; omega
    · have e : k = n := by omega
      subst e
      have hs : s = zs.sum := by rw [HS.out, List.take_of_length_le (by have := HL.out; omega)]
      have HS2 := Lib.hid hs
      clear hs
      go_wp2_with (go_at_call 116; (refine (int_any _ _ _ (fh_bd _).1 (fh_bd _).2 (fl_bd _).1 (fl_bd _).2).mono ?_); rintro e w2 ⟨rfl, hb2⟩; rw [hvs])
      go_ret2
      refine ⟨by rw [HS2.out]; rfl, ?_⟩
      repeat' (first | (with_reducible exact Below.refl _ _) | (with_reducible refine below_call ?_ (by with_reducible assumption) (Nat.le_refl _)) | (with_reducible refine below_alloc ?_ _) | (with_reducible refine Below.drew ?_) | (with_reducible refine below_drewN ?_ _) | (with_reducible refine Below.setCell ?_ ?_ _) | go_size)
end Go.Proofs.YtkflggojiiebeaaGreat.Wid

namespace Go.Proofs.YtkflggojiiebeaaGreat.Sed
open Go Go.RowKit

def val (b : BitVec 64) : Int := (b.toNat : Int)
def bv (x : Int) : BitVec 64 := BitVec.ofInt 64 x
theorem val_bd (b : BitVec 64) : 0 ≤ val b ∧ val b ≤ 18446744073709551615 := by
  have := b.isLt
  unfold val
  omega
theorem val_bv (x : Int) (h0 : 0 ≤ x) (h1 : x ≤ 18446744073709551615) : val (bv x) = x := by
  unfold val bv
  rw [BitVec.toNat_ofInt]
  omega
theorem bv_val (b : BitVec 64) : bv (val b) = b := by
  unfold val bv
  simp
theorem wrap_bv (x : Int) : IntKind.u64.wrap x = val (bv x) := by
  unfold val bv
  rw [IntKind.wrap_u64, BitVec.toNat_ofInt]
  omega
theorem bv_mul (x y : Int) : bv (x * y) = bv x * bv y := by unfold bv; exact BitVec.ofInt_mul x y
theorem val_xor (a b : BitVec 64) : bits .xor .u64 (val a) (val b) = val (a ^^^ b) := by
  unfold val
  rw [u64_xor_nat _ _ a.isLt b.isLt, BitVec.toNat_xor]
theorem val_shr (a : BitVec 64) (k : Nat) : val a / 2 ^ k = val (a >>> k) := by
  unfold val
  rw [BitVec.toNat_ushiftRight, Nat.shiftRight_eq_div_pow]
  simp
def sh (k : Nat) (b : BitVec 64) : BitVec 64 := b ^^^ b >>> k
def c1 : BitVec 64 := 13787848793156543929#64
def c2 : BitVec 64 := 10723151780598845931#64
def d1 : BitVec 64 := 10871156337175269513#64
def d2 : BitVec 64 := 3573116690164977347#64
def mixB (b : BitVec 64) : BitVec 64 := sh 31 (sh 27 (sh 30 b * c1) * c2)
def mix (x : Int) : Int := val (mixB (bv x))
def draw (s i : Int) : Int := mix (IntKind.u64.wrap (s + IntKind.u64.wrap (IntKind.u64.wrap (i + 1) * 11400714819323198485)))
theorem draw_bd (s i : Int) : 0 ≤ draw s i ∧ draw s i ≤ 18446744073709551615 := val_bd _
theorem val_of (x : Int) (h0 : 0 ≤ x) (h1 : x ≤ 18446744073709551615) : ∃ b : BitVec 64, x = val b := ⟨bv x, (val_bv x h0 h1).symm⟩
theorem shI (k : Nat) (m : Int) (hm : m = 2 ^ k) (b : BitVec 64) : bits .xor .u64 (val b) (val b / m) = val (sh k b) := by
  rw [hm, val_shr, val_xor]
  rfl
theorem mulI (a b : BitVec 64) (c : Int) (h : bv c = b) : IntKind.u64.wrap (val a * c) = val (a * b) := by
  rw [wrap_bv, bv_mul, bv_val, h]
theorem mix_eq (x : Int) (h0 : 0 ≤ x) (h1 : x ≤ 18446744073709551615) :
    IntKind.u64.wrap (bits .xor .u64
      (IntKind.u64.wrap (bits .xor .u64 (IntKind.u64.wrap (bits .xor .u64 x (x / 1073741824) * 13787848793156543929)) (IntKind.u64.wrap (bits .xor .u64 x (x / 1073741824) * 13787848793156543929) / 134217728) * 10723151780598845931))
      (IntKind.u64.wrap (bits .xor .u64 (IntKind.u64.wrap (bits .xor .u64 x (x / 1073741824) * 13787848793156543929)) (IntKind.u64.wrap (bits .xor .u64 x (x / 1073741824) * 13787848793156543929) / 134217728) * 10723151780598845931) / 2147483648)) = mix x := by
  obtain ⟨b, rfl⟩ := val_of x h0 h1
  rw [shI 30 1073741824 (by decide), mulI _ c1 _ rfl, shI 27 134217728 (by decide), mulI _ c2 _ rfl, shI 31 2147483648 (by decide), wrap_bv, bv_val, mix, bv_val]
  rfl
def okRow (l r : Int) : Prop := 0 ≤ l ∧ l ≤ 59 ∧ 0 ≤ r ∧ r ≤ 7
instance (l r : Int) : Decidable (okRow l r) := by unfold okRow; infer_instance
def pairA (s l r : Int) : Int := if okRow l r then 1 + draw s (2 * (8 * l + r)) % 2305843009213693950 else 0
def pairB (s l r : Int) : Int := if okRow l r then draw s (2 * (8 * l + r) + 1) % 2305843009213693951 else 0
theorem pairA_eq (s l r : Int) (h : okRow l r) : IntKind.u64.wrap (1 + (draw s (2 * (8 * l + r))).tmod 2305843009213693950) = pairA s l r := by
  have b := draw_bd s (2 * (8 * l + r))
  unfold pairA
  rw [if_pos h, Int.tmod_eq_emod_of_nonneg b.1, IntWalk.u64_in _ (by omega)]
theorem pairB_eq (s l r : Int) (h : okRow l r) : draw s (2 * (8 * l + r) + 1) % 2305843009213693951 = pairB s l r := by
  unfold pairB
  rw [if_pos h]
theorem pairA_bd (s l r : Int) (h : okRow l r) : 1 ≤ pairA s l r ∧ pairA s l r ≤ 2305843009213693950 := by
  unfold pairA
  rw [if_pos h]
  omega
theorem pairB_bd (s l r : Int) (h : okRow l r) : 0 ≤ pairB s l r ∧ pairB s l r ≤ 2305843009213693950 := by
  unfold pairB
  rw [if_pos h]
  omega
end Go.Proofs.YtkflggojiiebeaaGreat.Sed

namespace Go.Proofs.YtkflggojiiebeaaGreat.Sed
open Go Go.RowKit Fld

def bt (b : BitVec 64) (i : Nat) : Int := if b.getLsbD i then 1 else 0
def hg (b : BitVec 64) (i : Nat) : Int := val b / 2 ^ i * 2 ^ i
end Go.Proofs.YtkflggojiiebeaaGreat.Sed

namespace Go.Proofs.YtkflggojiiebeaaGreat.Sed
open Go.RowKit Lw Fld

theorem steps_any (w : World) :
    Calls Tryz.prog 238 #[] w fun e w' => e = .returned (.agg #[.int .u64 30, .int .u64 13787848793156543929, .int .u64 10871156337175269513, .int .u64 27, .int .u64 10723151780598845931, .int .u64 3573116690164977347, .int .u64 31, .int .u64 1, .int .u64 1]) ∧ Below w.heap.size w w' := by
  go_enter Tryz.func238, Tryz.ntmps238
  go_wp2
  go_returns
  exact ⟨rfl, (Below.refl _ _).alloc (Nat.le_refl _) _⟩
theorem steps0 (w : World) : (Instr.index 315 (.agg #[.int .u64 30, .int .u64 13787848793156543929, .int .u64 10871156337175269513, .int .u64 27, .int .u64 10723151780598845931, .int .u64 3573116690164977347, .int .u64 31, .int .u64 1, .int .u64 1]) (.int .i64 0)).run Tryz.prog w = .ok (.agg #[.int .u64 30, .int .u64 13787848793156543929, .int .u64 10871156337175269513]) w := by kernel_rfl
theorem steps1 (w : World) : (Instr.index 315 (.agg #[.int .u64 30, .int .u64 13787848793156543929, .int .u64 10871156337175269513, .int .u64 27, .int .u64 10723151780598845931, .int .u64 3573116690164977347, .int .u64 31, .int .u64 1, .int .u64 1]) (.int .i64 1)).run Tryz.prog w = .ok (.agg #[.int .u64 27, .int .u64 10723151780598845931, .int .u64 3573116690164977347]) w := by kernel_rfl
theorem steps2 (w : World) : (Instr.index 315 (.agg #[.int .u64 30, .int .u64 13787848793156543929, .int .u64 10871156337175269513, .int .u64 27, .int .u64 10723151780598845931, .int .u64 3573116690164977347, .int .u64 31, .int .u64 1, .int .u64 1]) (.int .i64 2)).run Tryz.prog w = .ok (.agg #[.int .u64 31, .int .u64 1, .int .u64 1]) w := by kernel_rfl
theorem mix_any (x : Int) (w : World) (h0 : 0 ≤ x) (h1 : x ≤ 18446744073709551615) :
    Calls Tryz.prog 233 #[.int .u64 x] w fun e w' => e = .returned (.int .u64 (mix x)) ∧ Below w.heap.size w w' := by
  have i0 := steps0
  have i1 := steps1
  have i2 := steps2
  go_enter Tryz.func233, Tryz.ntmps233
  go_wp2_with (go_at_call 238; ((with_reducible refine (steps_any _).mono ?_)); rintro e w' ⟨rfl, hb⟩; obtain ⟨bs, d, rfl⟩ := below_grow hb; clear hb)
  refine wp_loop_rounds 4 ?_
  iterate 3 (rw [rounds_succ]; go_wp2)
  rw [rounds_succ]; go_wp2
  go_ret
  refine ⟨ret_int ?_, ?_⟩
  · exact mix_eq x h0 h1
  · repeat' (first | (with_reducible exact Below.refl _ _) | (with_reducible refine below_over ?_ _ _) | (with_reducible refine Lw.below_alloc ?_ _) | (with_reducible refine Below.drew ?_) | (with_reducible refine below_drewN ?_ _) | (with_reducible refine Below.setCell ?_ ?_ _) | go_size)
theorem draw_any (s i : Int) (w : World) :
    Calls Tryz.prog 226 #[.int .u64 s, .int .u64 i] w fun e w' => e = .returned (.int .u64 (draw s i)) ∧ Below w.heap.size w w' := by
  go_enter Tryz.func226, Tryz.ntmps226
  go_wp2_with (go_at_call 233; ((with_reducible refine (mix_any _ _ (u64_bd _).1 (u64_bd _).2).mono ?_)); rintro e w' ⟨rfl, hb⟩; obtain ⟨bs, d, rfl⟩ := below_grow hb; clear hb)
  go_ret
  exact ⟨rfl, grow_below _ _ _⟩
theorem pair_any (s l r : Int) (w : World) (l0 : -9223372036854775808 ≤ l) (l1 : l ≤ 9223372036854775807) (r0 : -9223372036854775808 ≤ r) (r1 : r ≤ 9223372036854775807) :
    Calls Tryz.prog 221 #[.int .u64 s, .int .i64 l, .int .i64 r] w fun e w' => e = .returned (.tuple #[.int .u64 (pairA s l r), .int .u64 (pairB s l r)]) ∧ Below w.heap.size w w' := by
  by_cases hk : 0 ≤ l ∧ l ≤ 59 ∧ 0 ≤ r ∧ r ≤ 7
  · obtain ⟨a0, a1, a2, a3⟩ := hk
    go_enter Tryz.func221, Tryz.ntmps221
    go_wp2_with (first
      | (go_at_call 226; ((with_reducible refine (draw_any _ _ _).mono ?_)); rintro e w' ⟨rfl, hb⟩; obtain ⟨bs, d, rfl⟩ := below_grow hb; clear hb)
      | (go_at_call 227; ((with_reducible refine (fold_any _ _ (draw_bd _ _).1 (draw_bd _ _).2).mono ?_)); rintro e w' ⟨rfl, rfl⟩))
    go_ret2
    refine ⟨ret_two ?_ ?_, ?_⟩
    · exact pairA_eq s l r ⟨a0, a1, a2, a3⟩
    · exact pairB_eq s l r ⟨a0, a1, a2, a3⟩
    · exact grow_below _ _ _
  · have e1 : pairA s l r = 0 := if_neg hk
    have e2 : pairB s l r = 0 := if_neg hk
    go_enter Tryz.func221, Tryz.ntmps221
    go_wp2
    all_goals go_ret2
    all_goals exact ⟨ret_two (by first | rfl | exact e1.symm) (by first | rfl | exact e2.symm), Below.refl _ _⟩
end Go.Proofs.YtkflggojiiebeaaGreat.Sed

namespace Go.Proofs.YtkflggojiiebeaaGreat.Hsh
open Go.RowKit Fld Lw
set_option linter.unusedVariables false
def lin (a b x : Int) : Int := add (mul a x) b
def buck (a b x n : Int) : Int := if n < 1 then -1 else lin a b x % n
def thrA (x u y v : Int) : Int := mul (sub u v) (inv (sub x y))
def thrB (x u y v : Int) : Int := sub u (lin (thrA x u y v) 0 x)
theorem lin_bd (a b x : Int) : 0 ≤ lin a b x ∧ lin a b x ≤ 2305843009213693950 := add_bd _ _
theorem mod_le (x n : Int) (h : 0 ≤ x) (hn : 1 ≤ n) : x % n ≤ x := by
  have e := Int.ediv_mul_add_emod x n
  have b := Int.mul_nonneg (Int.ediv_nonneg h (show 0 ≤ n by omega)) (show 0 ≤ n by omega)
  omega
theorem buck_bd (a b x n : Int) : -1 ≤ buck a b x n ∧ buck a b x n ≤ 2305843009213693950 := by
  have h := lin_bd a b x
  unfold buck
  split
  · omega
  · have h1 := Int.emod_nonneg (lin a b x) (show n ≠ 0 by omega)
    have h2 := mod_le _ n h.1 (by omega)
    omega
theorem at_any (a b x : Int) (w : World) (a0 : 0 ≤ a) (a1 : a ≤ 18446744073709551615) (b0 : 0 ≤ b) (b1 : b ≤ 18446744073709551615) (x0 : 0 ≤ x) (x1 : x ≤ 18446744073709551615) :
    Calls Tryz.prog 229 #[.agg #[.int .u64 a, .int .u64 b], .int .u64 x] w fun e w' => e = .returned (.int .u64 (lin a b x)) ∧ Below w.heap.size w w' := by
  have m := mul_bd a x
  go_enter Tryz.func229, Tryz.ntmps229
  go_wp2
  go_region_held3 (fun w' => w'.cell? ⟨w.heap.size, 0, none⟩ = some (.int .u64 a) ∧ w'.cell? ⟨w.heap.size, 1, none⟩ = some (.int .u64 b)) (simp [go_sem, *])
    (first
    | (go_at_call 235; (with_reducible refine (mul_any _ _ _ a0 a1 x0 x1).mono ?_); rintro e w' ⟨rfl, rfl⟩)
    | (go_at_call 234; (with_reducible refine (add_any _ _ _ m.1 (by omega) b0 b1).mono ?_); rintro e w' ⟨rfl, rfl⟩))
  all_goals go_wp2
  all_goals go_ret
  all_goals refine ⟨rfl, ?_⟩
  all_goals (repeat' (first | (with_reducible first | exact Below.refl _ _ | assumption | refine below_over ?_ _ _ | refine Lw.below_alloc ?_ _ | refine Below.drew ?_ | refine below_drewN ?_ _ | refine Below.setCell ?_ ?_ _) | go_size))
theorem left_no (f : Fn) (c1 c2 : Array Value) (x n : Int) (w : World) (h : n < 1) :
    Calls Tryz.prog 228 #[.func f c1 c2, .int .u64 x, .int .i64 n] w fun e w' => e = .returned (.int .i64 (-1)) ∧ w = w' := by
  go_enter Tryz.func228, Tryz.ntmps228
  go_wp2
  go_ret
  exact ⟨rfl, rfl⟩
theorem left_yes (a b x n : Int) (w : World) (h : 1 ≤ n) (n1 : n ≤ 9223372036854775807) (a0 : 0 ≤ a) (a1 : a ≤ 18446744073709551615) (b0 : 0 ≤ b) (b1 : b ≤ 18446744073709551615) (x0 : 0 ≤ x) (x1 : x ≤ 18446744073709551615) :
    Calls Tryz.prog 228 #[.func (.func 229) #[.agg #[.int .u64 a, .int .u64 b]] #[], .int .u64 x, .int .i64 n] w fun e w' => e = .returned (.int .i64 (lin a b x % n)) ∧ Below w.heap.size w w' := by
  have l := lin_bd a b x
  have m0 := Int.emod_nonneg (lin a b x) (show n ≠ 0 by omega)
  have m1 := mod_le (lin a b x) n l.1 h
  have hn : IntKind.u64.wrap n = n := IntWalk.u64_in n ⟨by omega, by omega⟩
  have hn0 : ¬ n = 0 := by omega
  go_enter Tryz.func228, Tryz.ntmps228
  go_wp2_with (go_at_call 229; ((with_reducible refine (at_any a b x _ a0 a1 b0 b1 x0 x1).mono ?_)); rintro e w' ⟨rfl, hb⟩; obtain ⟨bs, d, rfl⟩ := below_grow hb; clear hb)
  go_ret
  refine ⟨rfl, ?_⟩
  repeat' (first | (with_reducible first | exact Below.refl _ _ | assumption | refine below_over ?_ _ _ | refine Lw.below_alloc ?_ _ | refine Below.drew ?_ | refine below_drewN ?_ _ | refine Below.setCell ?_ ?_ _) | go_size)
theorem bucket_any (a b x n : Int) (w : World) (a0 : 0 ≤ a) (a1 : a ≤ 18446744073709551615) (b0 : 0 ≤ b) (b1 : b ≤ 18446744073709551615) (x0 : 0 ≤ x) (x1 : x ≤ 18446744073709551615) (n0 : -9223372036854775808 ≤ n) (n1 : n ≤ 9223372036854775807) :
    Calls Tryz.prog 222 #[.int .u64 a, .int .u64 b, .int .u64 x, .int .i64 n] w fun e w' => e = .returned (.int .i64 (buck a b x n)) ∧ Below w.heap.size w w' := by
  have hmf : ∀ (fn : Fn) (first cap : Array Value) (w : World), (Instr.makeFunc fn first cap).run Tryz.prog w = .ok (.func fn first cap) w := fun _ _ _ _ => rfl
  by_cases h : n < 1
  · have e : buck a b x n = -1 := if_pos h
    go_enter Tryz.func222, Tryz.ntmps222
    go_wp2_with (go_at_call 228; ((with_reducible refine (left_no _ _ _ x n _ h).mono ?_)); rintro e w' ⟨rfl, rfl⟩)
    go_ret
    exact ⟨ret_int e.symm, Below.refl _ _⟩
  · have e : buck a b x n = lin a b x % n := if_neg h
    go_enter Tryz.func222, Tryz.ntmps222
    go_wp2_with (go_at_call 228; ((with_reducible refine (left_yes a b x n _ (by omega) n1 a0 a1 b0 b1 x0 x1).mono ?_)); rintro e w' ⟨rfl, hb⟩; obtain ⟨bs, d, rfl⟩ := below_grow hb; clear hb)
    go_ret
    refine ⟨ret_int e.symm, ?_⟩
    repeat' (first | (with_reducible first | exact Below.refl _ _ | assumption | refine below_over ?_ _ _ | refine Lw.below_alloc ?_ _ | refine Below.drew ?_ | refine below_drewN ?_ _ | refine Below.setCell ?_ ?_ _) | go_size)
end Go.Proofs.YtkflggojiiebeaaGreat.Hsh

namespace Go.Proofs.YtkflggojiiebeaaGreat.Hsh
open Go.RowKit Fld Lw
set_option linter.unusedVariables false
theorem zero_of (a t : Int) (ht : fold t ≠ 0) (h : mul a t = 0) : fold a = 0 := by
  have e := mul_back a t ht
  rw [h] at e
  rw [← e, mul_comm, mul_zero _ 0 rfl]
theorem fold_sub (x y : Int) : fold (sub x y) = sub x y := fold_of _ (sub_bd x y).1 (sub_bd x y).2
theorem slope (x u y v : Int) (h : sub x y ≠ 0) : mul (thrA x u y v) (sub x y) = sub u v := by
  unfold thrA
  rw [← mul_assoc, mul_comm (inv (sub x y)), inv_is _ (by rw [fold_sub]; exact h), mul_one, fold_sub]
theorem slope_iff (A x u y v : Int) : mul A (sub x y) = sub u v ↔ (A * x - A * y - (u - v)) % 2305843009213693951 = 0 := by
  unfold mul sub
  rw [mul_mod, Int.mul_sub]
  omega
theorem lin_eq (a b x : Int) : lin a b x = (a * x + b) % 2305843009213693951 := by unfold lin add mul; omega
theorem thrA_bd (x u y v : Int) : 0 ≤ thrA x u y v ∧ thrA x u y v ≤ 2305843009213693950 := mul_bd _ _
theorem meets1 (x u y v : Int) (h : sub x y ≠ 0) : lin (thrA x u y v) (thrB x u y v) x = fold u := by
  rw [lin_eq]
  unfold thrB sub fold
  rw [lin_eq]
  omega
theorem meets2 (x u y v : Int) (h : sub x y ≠ 0) : lin (thrA x u y v) (thrB x u y v) y = fold v := by
  have s := (slope_iff _ x u y v).1 (slope x u y v h)
  rw [lin_eq]
  unfold thrB sub fold
  rw [lin_eq]
  omega
theorem only (x u y v c d : Int) (h : sub x y ≠ 0) : (lin c d x = fold u ∧ lin c d y = fold v) ↔ (fold c = thrA x u y v ∧ fold d = thrB x u y v) := by
  have s := (slope_iff _ x u y v).1 (slope x u y v h)
  have hb := thrA_bd x u y v
  constructor
  · rintro ⟨h1, h2⟩
    have e : (c * x - c * y - (u - v)) % 2305843009213693951 = 0 := by
      rw [lin_eq] at h1 h2
      unfold fold at h1 h2
      omega
    have z : fold (c - thrA x u y v) = 0 := by
      refine zero_of _ (sub x y) (by rw [fold_sub]; exact h) ?_
      unfold mul sub
      rw [mul_mod, Int.mul_sub, Int.sub_mul, Int.sub_mul]
      omega
    have hc : fold c = thrA x u y v := by unfold fold at z ⊢; omega
    have ex : c * x % 2305843009213693951 = thrA x u y v * x % 2305843009213693951 := by
      rw [← hc]
      unfold fold
      rw [mod_mul]
    refine ⟨hc, ?_⟩
    rw [lin_eq] at h1
    unfold thrB sub
    rw [lin_eq]
    unfold fold at h1 ⊢
    omega
  · rintro ⟨hc, hd⟩
    have ex : c * x % 2305843009213693951 = thrA x u y v * x % 2305843009213693951 := by
      rw [← hc]
      unfold fold
      rw [mod_mul]
    have ey : c * y % 2305843009213693951 = thrA x u y v * y % 2305843009213693951 := by
      rw [← hc]
      unfold fold
      rw [mod_mul]
    have m1 := meets1 x u y v h
    have m2 := meets2 x u y v h
    rw [← hd, lin_eq] at m1 m2
    rw [lin_eq, lin_eq]
    unfold fold at m1 m2 ⊢
    omega
end Go.Proofs.YtkflggojiiebeaaGreat.Hsh

namespace Go.Proofs.YtkflggojiiebeaaGreat.Grd
open Go Go.RowKit Lw
set_option linter.unusedVariables false
theorem i64_info : (Tryz.prog.info? 2).map (fun i => (i.zero, i.size, i.bytes)) = some (some (.int .i64 0), 1, 8) := by kernel_rfl
theorem i64s_u : Tryz.prog.underlying 54 = some (.slice 2) := by kernel_rfl
theorem ret_i {k : IntKind} {a b : Int} (h : a = b) : Ending.returned (.int k a) = .returned (.int k b) := by rw [h]
theorem ret_b {a b : Bool} (h : a = b) : Ending.returned (.bool a) = .returned (.bool b) := by rw [h]
/-- A row: its block, how much it may hold, its numbers. -/
abbrev Row := Nat × Nat × List Int
def rowHd (r : Row) : Value := .slice (some ⟨r.1, 0, none⟩) r.2.2.length r.2.1
structure RG (w : World) (b : Nat) (hdr : Value) (R : List Row) : Prop where
  cell : w.heap[b]? = some (.cells #[hdr] 144 (0, 0))
  outer : w.ownsRow 0 54 1 hdr R.length (R.map rowHd)
  rows : ∀ r ∈ R, w.ownsRow 0 2 1 (rowHd r) r.2.2.length (r.2.2.map (Value.int .i64))
  apart1 : hdr.ownBlock ≠ some b
  apart2 : ∀ r ∈ R, r.1 ≠ b ∧ hdr.ownBlock ≠ some r.1
  nd : (R.map (·.1)).Nodup
def RF (b : Nat) (hdr : Value) (R : List Row) (k : Nat) : Prop := k = b ∨ hdr.ownBlock = some k ∨ ∃ r ∈ R, r.1 = k
theorem RG.keep {F : Nat → Prop} {w w' : World} {b : Nat} {hdr : Value} {R : List Row} (h : RG w b hdr R) (k : Kept F w w') (hf : ∀ q, RF b hdr R q → ¬ F q) : RG w' b hdr R where
  cell := k.heap h.cell (hf b (.inl rfl))
  outer := k.own h.outer (fun q hq => hf q (.inr (.inl hq)))
  rows := fun r hr => k.own (h.rows r hr) (fun q hq => hf q (.inr (.inr ⟨r, hr, by simpa [rowHd, Value.ownBlock] using hq⟩)))
  apart1 := h.apart1
  apart2 := h.apart2
  nd := h.nd
/-- The number of a cell; 0 where there is none. -/
def at2 (L : List (List Int)) (row col : Int) : Int := if row < 0 ∨ col < 0 then 0 else ((L[row.toNat]?.getD [])[col.toNat]?).getD 0
def in2 (L : List (List Int)) (row col : Int) : Bool := decide (0 ≤ row ∧ row < L.length ∧ 0 ≤ col ∧ col < (L[row.toNat]?.getD []).length)
def nums (R : List Row) : List (List Int) := R.map (fun r => r.2.2)
theorem at2_out {L : List (List Int)} {row col : Int} (h : row < 0 ∨ (L.length : Int) ≤ row ∨ col < 0 ∨ ((L[row.toNat]?.getD []).length : Int) ≤ col) : at2 L row col = 0 := by
  unfold at2
  split
  · rfl
  · rename_i h2
    have h3 : L.length ≤ row.toNat ∨ (L[row.toNat]?.getD []).length ≤ col.toNat := by omega
    rcases h3 with h3 | h3
    · rw [List.getElem?_eq_none h3]; rfl
    · rw [List.getElem?_eq_none h3]; rfl
theorem RG.hd {w : World} {b : Nat} {hdr : Value} {R : List Row} (h : RG w b hdr R) : ∃ A cap, hdr = .slice A R.length cap ∧ R.length ≤ cap ∧ (A = none → R.length = 0) ∧ ∀ j r, R[j]? = some r → ∃ ad, A = some ad ∧ w.cell? (ad.add j) = some (rowHd r) := by
  rcases h.outer.2 with ⟨h1, h2⟩ | ⟨g, cap, cur, h1, h2, h3, h4, h5, h6, h7⟩
  · refine ⟨none, 0, by rw [h1, h2], by omega, fun _ => h2, fun j r hj => ?_⟩
    have := (List.getElem?_eq_some_iff.1 hj).1
    omega
  · refine ⟨some ⟨g, 0, none⟩, cap, h1, h4, (fun h => by cases h), fun j r hj => ⟨_, rfl, ?_⟩⟩
    exact h.outer.cells (g := g) (by rw [h1]; rfl) j _ (by rw [List.getElem?_map, hj]; rfl)
/-- The rows with one number set. -/
def set2 (R : List Row) (K C : Nat) (n : Int) : List Row := R.modify K (fun r => (r.1, r.2.1, r.2.2.set C n))
theorem set2_len (R : List Row) (K C : Nat) (n : Int) : (set2 R K C n).length = R.length := by simp [set2]
theorem set2_get (R : List Row) (K C : Nat) (n : Int) (i : Nat) : (set2 R K C n)[i]? = if K = i then (R[i]?).map (fun r => (r.1, r.2.1, r.2.2.set C n)) else R[i]? := by
  unfold set2
  rw [List.getElem?_modify]
  by_cases h : K = i <;> simp [h]
theorem set2_hd (R : List Row) (K C : Nat) (n : Int) : (set2 R K C n).map rowHd = R.map rowHd := by
  apply List.ext_getElem?
  intro i
  rw [List.getElem?_map, List.getElem?_map, set2_get]
  split
  · cases R[i]? <;> simp [rowHd]
  · rfl
theorem set2_bl (R : List Row) (K C : Nat) (n : Int) : (set2 R K C n).map (·.1) = R.map (·.1) := by
  apply List.ext_getElem?
  intro i
  rw [List.getElem?_map, List.getElem?_map, set2_get]
  split
  · cases R[i]? <;> simp
  · rfl
theorem set2_mem {R : List Row} {K C : Nat} {n : Int} {r : Row} (h : r ∈ set2 R K C n) : ∃ (i : Nat) (q : Row), R[i]? = some q ∧ r.1 = q.1 ∧ r.2.1 = q.2.1 ∧ ((K = i ∧ r.2.2 = q.2.2.set C n) ∨ (K ≠ i ∧ r.2.2 = q.2.2)) := by
  obtain ⟨i, hi, e⟩ := List.mem_iff_getElem.1 h
  have e2 : (set2 R K C n)[i]? = some r := by rw [List.getElem?_eq_getElem hi, e]
  rw [set2_get] at e2
  split at e2
  · rename_i hk
    obtain ⟨q, hq, rfl⟩ := Option.map_eq_some_iff.1 e2
    exact ⟨i, q, hq, rfl, rfl, .inl ⟨hk, rfl⟩⟩
  · rename_i hk
    exact ⟨i, r, e2, rfl, rfl, .inr ⟨hk, rfl⟩⟩
theorem RG.put {w : World} {b : Nat} {hdr : Value} {R : List Row} (h : RG w b hdr R) {K : Nat} {r : Row} (hr : R[K]? = some r) (C : Nat) (n : Int) : RG (w.setCell ⟨r.1, C, none⟩ (.int .i64 n)) b hdr (set2 R K C n) := by
  have hrm := List.mem_of_getElem? hr
  have hst := (h.rows r hrm).stored (g := r.1) (cap := r.2.1) C (.int .i64 n)
  have hk : Kept (fun q => q = r.1) w (w.setCell ⟨r.1, C, none⟩ (.int .i64 n)) := Kept.set (F := fun q => q = r.1) (Kept.refl _ w) (.inl rfl) C _
  have hnd := h.nd
  have uniq : ∀ (i : Nat) (q : Row), R[i]? = some q → q.1 = r.1 → i = K := by
    intro i q hq e
    have h1 := (List.getElem?_eq_some_iff.1 hq).1
    have h2 := (List.getElem?_eq_some_iff.1 hr).1
    have g1 := (List.getElem?_eq_some_iff.1 hq).2
    have g2 := (List.getElem?_eq_some_iff.1 hr).2
    refine Decidable.by_contra fun hne => ?_
    rcases Nat.lt_or_gt_of_ne hne with h3 | h3
    · exact List.pairwise_iff_getElem.1 hnd i K (by simpa using h1) (by simpa using h2) h3 (by simp [g1, g2, e])
    · exact List.pairwise_iff_getElem.1 hnd K i (by simpa using h2) (by simpa using h1) h3 (by simp [g1, g2, e])
  refine ⟨hk.heap h.cell (fun e => (h.apart2 r hrm).1 e.symm), ?_, ?_, h.apart1, ?_, by rw [set2_bl]; exact hnd⟩
  · rw [set2_len, set2_hd]
    exact hk.own h.outer (fun q hq e => (h.apart2 r hrm).2 (by rw [hq, e]))
  · intro x hx
    obtain ⟨i, q, hq, e1, e2, h3⟩ := set2_mem hx
    have hqm := List.mem_of_getElem? hq
    obtain ⟨x1, x2, x3⟩ := x
    obtain ⟨q1, q2, q3⟩ := q
    simp only at e1 e2 h3
    subst e1 e2
    rcases h3 with ⟨hk2, h3⟩ | ⟨hk2, h3⟩
    · subst h3
      subst hk2
      rw [hr] at hq
      injection hq with hq
      subst hq
      have h4 := hst.1
      rw [← List.map_set] at h4
      simpa [rowHd] using h4
    · subst h3
      exact hk.own (h.rows _ hqm) (fun p hp e => hk2 (uniq i _ hq (by simp [rowHd, Value.ownBlock] at hp; rw [hp, e])).symm)
  · intro x hx
    obtain ⟨i, q, hq, e1, e2, h3⟩ := set2_mem hx
    rw [e1]
    exact h.apart2 q (List.mem_of_getElem? hq)
theorem RG.blt {w : World} {b : Nat} {hdr : Value} {R : List Row} (h : RG w b hdr R) {k : Nat} (hk : RF b hdr R k) : k < w.heap.size := by
  rcases hk with rfl | hk | ⟨r, hr, rfl⟩
  · rcases Nat.lt_or_ge k w.heap.size with h1 | h1
    · exact h1
    · have := h.cell; rw [Array.getElem?_eq_none h1] at this; cases this
  · exact own_lt h.outer hk
  · exact own_lt (h.rows r hr) rfl
def cl (n : Int) (m : Nat) : Nat := min n.toNat m
end Go.Proofs.YtkflggojiiebeaaGreat.Grd

namespace Go.Proofs.YtkflggojiiebeaaGreat.Grd
open Go Go.RowKit Lw
set_option linter.unusedVariables false
structure Dims (m n : Nat) (L : List (List Int)) : Prop where
  len : L.length = m
  m8 : m ≤ 8
  n128 : n ≤ 128
  rows : ∀ r ∈ L, r.length = n ∧ In64 r
def setL (L : List (List Int)) (row col x : Int) : List (List Int) := if in2 L row col = true then L.modify row.toNat (fun r => r.set col.toNat x) else L
def zerosL (m n : Nat) : List (List Int) := List.replicate m (List.replicate n 0)
theorem in2_dims {m n : Nat} {L : List (List Int)} (h : Dims m n L) (row col : Int) : in2 L row col = decide (0 ≤ row ∧ row < m ∧ 0 ≤ col ∧ col < n) := by
  unfold in2
  rw [h.len]
  by_cases h1 : 0 ≤ row ∧ row < m
  · have h2 : row.toNat < L.length := by rw [h.len]; omega
    have e : (L[row.toNat]?.getD []).length = n := by
      rw [List.getElem?_eq_getElem h2]
      exact (h.rows _ (List.getElem_mem h2)).1
    rw [e]
  · have g1 : ¬ (0 ≤ row ∧ row < (m : Int) ∧ 0 ≤ col ∧ col < ((L[row.toNat]?.getD []).length : Int)) := fun h => h1 ⟨h.1, h.2.1⟩
    have g2 : ¬ (0 ≤ row ∧ row < (m : Int) ∧ 0 ≤ col ∧ col < (n : Int)) := fun h => h1 ⟨h.1, h.2.1⟩
    rw [decide_eq_false g1, decide_eq_false g2]
theorem in64_set {r : List Int} (h : In64 r) (j : Nat) {x : Int} (h0 : -9223372036854775808 ≤ x) (h1 : x ≤ 9223372036854775807) : In64 (r.set j x) := by
  intro v hv
  rcases List.mem_or_eq_of_mem_set hv with h2 | h2
  · exact h v h2
  · subst h2; exact ⟨h0, h1⟩
theorem Dims.set {m n : Nat} {L : List (List Int)} (h : Dims m n L) (row col : Int) {x : Int} (h0 : -9223372036854775808 ≤ x) (h1 : x ≤ 9223372036854775807) : Dims m n (setL L row col x) := by
  unfold setL
  split
  · refine ⟨by rw [List.length_modify]; exact h.len, h.m8, h.n128, fun r hr => ?_⟩
    obtain ⟨i, hi, e⟩ := List.mem_iff_getElem.1 hr
    rw [List.getElem_modify] at e
    rw [List.length_modify] at hi
    have h2 := h.rows _ (List.getElem_mem hi)
    split at e
    · subst e; exact ⟨by rw [List.length_set]; exact h2.1, in64_set h2.2 _ h0 h1⟩
    · subst e; exact h2
  · exact h
theorem dims_zeros {m n : Nat} (h : m ≤ 8) (g : n ≤ 128) : Dims m n (zerosL m n) := by
  refine ⟨by simp [zerosL], h, g, fun r hr => ?_⟩
  have := (List.mem_replicate.1 hr).2
  subst this
  exact ⟨by simp, fun v hv => by have := (List.mem_replicate.1 hv).2; subst this; exact ⟨by omega, by omega⟩⟩
/-- A row of numbers, its memory its own. -/
def Row1 (w : World) (A : Option Addr) (Z : List Int) : Prop := (A = none → Z = []) ∧ ∀ a, A = some a → ∃ g i, a = ⟨g, i, none⟩ ∧ Ord.Mid w g i Z
theorem Row1.rd {w : World} {A : Option Addr} {Z : List Int} (h : Row1 w A Z) : Rd .i64 w A Z := by
  intro j v hv
  cases A with
  | none => rw [h.1 rfl] at hv; simp at hv
  | some a =>
    obtain ⟨g, i, rfl, hm⟩ := h.2 a rfl
    exact hm.rd j v hv
theorem mem_zip {α β γ : Type} {f : α → β → γ} : ∀ {xs : List α} {ys : List β} {z : γ}, z ∈ List.zipWith f xs ys → ∃ x ∈ xs, ∃ y ∈ ys, z = f x y
  | [], _, _, h => by simp at h
  | _ :: _, [], _, h => by simp at h
  | x :: xs, y :: ys, z, h => by
    rw [List.zipWith_cons_cons] at h
    rcases List.mem_cons.1 h with h | h
    · exact ⟨x, by simp, y, by simp, h⟩
    · obtain ⟨a, ha, b, hb, e⟩ := mem_zip h
      exact ⟨a, by simp [ha], b, by simp [hb], e⟩
theorem fit64_in {x : Int} (h : Wid.fit64 x = true) : -9223372036854775808 ≤ x ∧ x ≤ 9223372036854775807 := by
  have h2 : -9223372036854775808 ≤ x ∧ x < 9223372036854775808 := by simpa [Wid.fit64] using h
  omega
end Go.Proofs.YtkflggojiiebeaaGreat.Grd

namespace Go.Proofs.YtkflggojiiebeaaGreat.Grd
open Go Go.RowKit Lw
set_option linter.unusedVariables false
set_option maxRecDepth 100000 in
set_option maxHeartbeats 2000000 in
theorem rsame_any (A B : Option Addr) (n m ca cb : Nat) (xs ys : List Int) (w : World) (ha : Rd .i64 w A xs) (hb : Rd .i64 w B ys) (hla : xs.length = n) (hlb : ys.length = m) (hn : n ≤ 9223372036854775807) (hm : m ≤ 9223372036854775807) :
    Calls Tryz.prog 33 #[.slice A n ca, .slice B m cb] w fun e w' => e = .returned (.bool (decide (xs = ys))) ∧ Below w.heap.size w w' := by
  have HA := Lib.hid ha
  have HB := Lib.hid hb
  have HLA := Lib.hid hla
  have HLB := Lib.hid hlb
  clear ha hb
  by_cases hnm : n = m
  · subst hnm
    clear hla hlb
    go_enter Tryz.func33, Tryz.ntmps33
    go_wp2
    go_loopw [5] (fun i wr => ∃ k d : Nat, k ≤ n ∧ i = .int .i64 k ∧ xs.take k = ys.take k ∧ wr = w.drewN d) (fun i _ => n - (intOf i).toNat)
    case atStart => exact ⟨0, 0, Nat.zero_le _, rfl, rfl, rfl⟩
    case round =>
      obtain ⟨k, d, hk, rfl, heq, rfl⟩ := hrel
      have HE := Lib.hid heq
      clear heq
      by_cases hlt : k < n
      · obtain ⟨x, hx⟩ : ∃ x, xs[k]? = some x := ⟨_, List.getElem?_eq_getElem (by have := HLA.out; omega)⟩
        obtain ⟨y, hy⟩ : ∃ y, ys[k]? = some y := ⟨_, List.getElem?_eq_getElem (by have := HLB.out; omega)⟩
        obtain ⟨ad, rfl, hcx⟩ := HA.out k x hx
        obtain ⟨bd, rfl, hcy⟩ := HB.out k y hy
        by_cases hxy : x = y
        · have HN : Hid (xs.take (k + 1) = ys.take (k + 1)) := Lib.hid (by
            rw [List.take_add_one, List.take_add_one, HE.out, hx, hy, hxy])
          subst hxy
          clear hx hy
          go_wp2
          go_quiet (fail)
          go_wp2
          go_roundw
          case rel => exact ⟨k + 1, _, by omega, by go_num, HN.out, rfl⟩
          case measure => simp [intOf]; omega
        · have HD : Hid (decide (xs = ys) = false) := Lib.hid (decide_eq_false (fun e => hxy (by rw [e, hy] at hx; injection hx with hx; exact hx.symm)))
          have hne : (x == y) = false := by simpa using hxy
          have hne2 : (x != y) = true := by simpa using hxy
          clear hx hy hxy
          go_wp2
          go_quiet (fail)
          go_wp2
          go_ret
          exact ⟨ret_b HD.out.symm, by first | exact below_drewN (Below.refl _ _) _ | exact below_drewN (below_drewN (Below.refl _ _) _) _⟩
      · have e : k = n := by omega
        subst e
        have HD : Hid (decide (xs = ys) = true) := Lib.hid (decide_eq_true (by
          have := HE.out
          rwa [List.take_of_length_le (by have := HLA.out; omega), List.take_of_length_le (by have := HLB.out; omega)] at this))
        go_wp2
        go_ret
        exact ⟨ret_b HD.out.symm, by first | exact below_drewN (Below.refl _ _) _ | exact below_drewN (below_drewN (Below.refl _ _) _) _⟩
  · have hne : ((n : Int) == (m : Int)) = false := by simp; omega
    have hne2 : ((n : Int) != (m : Int)) = true := by simp; omega
    have HD : Hid (decide (xs = ys) = false) := Lib.hid (decide_eq_false (fun e => hnm (by rw [← hla, ← hlb, e])))
    clear hla hlb hnm
    go_enter Tryz.func33, Tryz.ntmps33
    go_wp2
    go_ret
    exact ⟨ret_b HD.out.symm, Below.refl _ _⟩
end Go.Proofs.YtkflggojiiebeaaGreat.Grd

namespace Go.Proofs.YtkflggojiiebeaaGreat.Grd
open Go Go.RowKit Lw
set_option linter.unusedVariables false
set_option linter.unusedSimpArgs false
/-- A grid of the code at p, in the blocks F: m rows, n columns, the numbers L. -/
def PG (w : World) (p : Addr) (F : Nat → Prop) (m n : Nat) (L : List (List Int)) : Prop :=
  Dims m n L ∧ ∃ (b g cap : Nat), p = ⟨b, 0, none⟩ ∧ w.heap[b]? = some (.cells #[.int .i64 m, .int .i64 n, .slice (some ⟨g, 0, none⟩) (m * n) cap] 251 (0, 0)) ∧ Ord.Mid w g 0 L.flatten ∧ m * n ≤ cap ∧ cap ≤ maxLen ∧ b ≠ g ∧ F = (fun k => k = b ∨ k = g)
theorem PG.dims {w : World} {p : Addr} {F : Nat → Prop} {m n : Nat} {L : List (List Int)} (h : PG w p F m n L) : Dims m n L := h.1
theorem size_of_heap {w : World} {b : Nat} {o : Obj} (h : w.heap[b]? = some o) : b < w.heap.size := by
  rcases Nat.lt_or_ge b w.heap.size with h1 | h1
  · exact h1
  · rw [Array.getElem?_eq_none h1] at h; cases h
def pgT (p : Addr) (F : Nat → Prop) (m n : Nat) (L : List (List Int)) : Thing where
  I := fun w => PG w p F m n L
  F := F
  keep := fun w w' H h hk hf => by
    obtain ⟨hd, b, g, cap, rfl, hb, hm, h1, h2, h3, rfl⟩ := h
    exact ⟨hd, b, g, cap, rfl, hk.heap hb (hf b (.inl rfl)), hm.keep hk (hf g (.inr rfl)), h1, h2, h3, rfl⟩
  lt := fun w h k hk => by
    obtain ⟨hd, b, g, cap, rfl, hb, hm, h1, h2, h3, rfl⟩ := h
    rcases hk with rfl | rfl
    · exact size_of_heap hb
    · exact hm.lt
theorem clamped_any (n M : Int) (m : Nat) (w : World) (hM : M = m) (n0 : -9223372036854775808 ≤ n) (n1 : n ≤ 9223372036854775807) (hm : m ≤ 128) :
    Calls Tryz.prog 148 #[.int .i64 n, .int .i64 M] w fun e w' => e = .returned (.int .i64 (cl n m)) ∧ w' = w := by
  go_enter Tryz.func148, Tryz.ntmps148
  go_wp2
  all_goals
    go_ret
    refine ⟨ret_i ?_, rfl⟩
    unfold cl
    omega
theorem cl_le (n : Int) (m : Nat) : cl n m ≤ m := by unfold cl; omega
theorem zeros_flat2 (m n : Nat) : (zerosL m n).flatten = List.replicate (m * n) 0 := by
  unfold zerosL
  rw [List.flatten_replicate_replicate]
theorem mid_made (w : World) (q : Nat) (e : TypeId) : Ord.Mid (w.alloc (.cells (madeCells #[.int .i64 0] q) e)) w.heap.size 0 (List.replicate q 0) := by
  refine ⟨_, _, heap_alloc_new w _, fun j v hv => ?_⟩
  have h2 := toList_madeCells_one (.int .i64 0) q
  rw [List.getElem?_replicate] at hv
  split at hv
  · rename_i hj
    injection hv with hv
    subst hv
    rw [← Array.getElem?_toList, h2, Nat.zero_add, List.getElem?_replicate, if_pos hj]
  · cases hv
set_option maxRecDepth 100000 in
theorem new_any (rows width : Int) (w : World) (r0 : -9223372036854775808 ≤ rows) (r1 : rows ≤ 9223372036854775807) (c0 : -9223372036854775808 ≤ width) (c1 : width ≤ 9223372036854775807) :
    Calls Tryz.prog 117 #[.int .i64 rows, .int .i64 width] w fun e w' => ∃ (p : Addr) (F : Nat → Prop), e = .returned (.pointer (some p)) ∧ PG w' p F (cl rows 8) (cl width 128) (zerosL (cl rows 8) (cl width 128)) ∧ (∀ k, F k → w.heap.size ≤ k) ∧ Below w.heap.size w w' := by
  obtain ⟨i0, hi, hz0, hz1, hz2⟩ := info_parts i64_info
  obtain ⟨m, hm⟩ : ∃ m, m = cl rows 8 := ⟨_, rfl⟩
  obtain ⟨n, hn⟩ : ∃ n, n = cl width 128 := ⟨_, rfl⟩
  have m8 : m ≤ 8 := hm ▸ cl_le rows 8
  have n128 : n ≤ 128 := hn ▸ cl_le width 128
  have C1 := Lib.hid (fun w => hm ▸ clamped_any rows 8 8 w rfl r0 r1 (by omega))
  have C2 := Lib.hid (fun w => hn ▸ clamped_any width 128 128 w rfl c0 c1 (by omega))
  rw [← hm, ← hn]
  obtain ⟨q, hq⟩ : ∃ q, q = m * n := ⟨_, rfl⟩
  have hqi : (m : Int) * n = (q : Int) := by rw [hq]; simp
  have hq1 : q ≤ 1024 := by rw [hq]; exact Nat.le_trans (Nat.mul_le_mul m8 n128) (by decide)
  have HD := Lib.hid (dims_zeros m8 n128)
  have HZ := Lib.hid (zeros_flat2 m n)
  have HQ := Lib.hid hq
  clear hm hn hq
  have hmk : ∀ w, (Instr.makeSlice 54 (.int .i64 (q : Int)) (.int .i64 (q : Int))).run Tryz.prog w = .ok (.slice (some ⟨w.heap.size, 0, none⟩) q q) (w.alloc (.cells (madeCells #[.int .i64 0] q) 2)) := by
    intro w
    have h := run_make (P := Tryz.prog) w 54 2 i0 (.int .i64 0) i64s_u hi hz0 .i64 .i64 q q (by omega) (Int.le_refl _) (by rw [hz2]; omega) (by omega)
    rw [hz1] at h
    simpa [Value.cells] using h
  clear hi hz0 hz1 hz2
  go_enter Tryz.func117, Tryz.ntmps117
  go_wp2_with (go_at_call 148; (first | with_reducible refine (C1.out _).mono ?_ | with_reducible refine (C2.out _).mono ?_); rintro e w' ⟨rfl, rfl⟩)
  go_ret
  have hb1 := Lw.below_alloc (Below.refl w'.heap.size w') (.cells (madeCells #[.int .i64 0] q) 2)
  have hb2 := hb1.alloc hb1.size (.cells #[.int .i64 m, .int .i64 n, .slice (some ⟨w'.heap.size, 0, none⟩) q q] 251)
  have hm := mid_made w' q 2
  refine ⟨⟨w'.heap.size + 1, 0, none⟩, fun k => k = w'.heap.size + 1 ∨ k = w'.heap.size, rfl, ⟨HD.out, w'.heap.size + 1, w'.heap.size, q, rfl, ?_, ?_, by rw [HQ.out]; exact Nat.le_refl _, by unfold maxLen; omega, by omega, rfl⟩, fun k hk => by omega, hb2⟩
  · have h := heap_alloc_new (w'.alloc (.cells (madeCells #[.int .i64 0] q) 2)) (.cells #[.int .i64 m, .int .i64 n, .slice (some ⟨w'.heap.size, 0, none⟩) q q] 251)
    rw [World.size_alloc, HQ.out] at h
    rw [HQ.out]
    exact h
  · rw [HZ.out, ← HQ.out]
    exact hm.up (Lw.below_alloc (Below.refl _ _) _)
theorem grd_cell {w : World} {b : Nat} {vs : Array Value} {e : TypeId} (h : w.heap[b]? = some (.cells vs e (0, 0))) (i : Nat) {v : Value} (hv : vs[i]? = some v) : w.cell? ⟨b, i, none⟩ = some v := by simp [World.cell?, h, hv]
theorem rows_eq (p : Addr) (F : Nat → Prop) (m n : Nat) (L : List (List Int)) (w : World) (h : PG w p F m n L) :
    Calls Tryz.prog 213 #[.pointer (some p)] w fun e w' => e = .returned (.int .i64 m) ∧ w' = w := by
  obtain ⟨hd, b, g, cap, rfl, hb, -⟩ := h
  have c0 := grd_cell hb 0 (v := .int .i64 m) rfl
  clear hd hb
  go_enter Tryz.func213, Tryz.ntmps213
  go_wp2
  go_ret
  exact ⟨rfl, rfl⟩
theorem width_eq (p : Addr) (F : Nat → Prop) (m n : Nat) (L : List (List Int)) (w : World) (h : PG w p F m n L) :
    Calls Tryz.prog 199 #[.pointer (some p)] w fun e w' => e = .returned (.int .i64 n) ∧ w' = w := by
  obtain ⟨hd, b, g, cap, rfl, hb, -⟩ := h
  have c0 := grd_cell hb 1 (v := .int .i64 n) rfl
  clear hd hb
  go_enter Tryz.func199, Tryz.ntmps199
  go_wp2
  go_ret
  exact ⟨rfl, rfl⟩
theorem rows_any (p : Addr) (F : Nat → Prop) (m n : Nat) (L : List (List Int)) (w : World) (h : PG w p F m n L) :
    Calls Tryz.prog 213 #[.pointer (some p)] w fun e w' => e = .returned (.int .i64 m) ∧ Below w.heap.size w w' :=
  (rows_eq p F m n L w h).mono fun e w' h => ⟨h.1, h.2 ▸ Below.refl _ _⟩
theorem flat_get {n : Nat} : ∀ {L : List (List Int)} (k j : Nat), (∀ r ∈ L, r.length = n) → k < L.length → j < n → L.flatten[k * n + j]? = (L[k]?.getD [])[j]?
  | [], k, j, _, hk, _ => by simp at hk
  | r :: L, 0, j, hr, _, hj => by
    have h := hr r (by simp)
    rw [List.flatten_cons, Nat.zero_mul, Nat.zero_add, List.getElem?_append_left (by omega)]
    rfl
  | r :: L, k + 1, j, hr, hk, hj => by
    have h := hr r (by simp)
    have ih := flat_get (L := L) k j (fun q hq => hr q (by simp [hq])) (by simpa using hk) hj
    have e : (k + 1) * n + j - r.length = k * n + j := by rw [Nat.succ_mul]; omega
    rw [List.flatten_cons, List.getElem?_append_right (by rw [Nat.succ_mul]; omega), e, ih]
    rfl
theorem flat_set {n : Nat} (x : Int) : ∀ {L : List (List Int)} (k j : Nat), (∀ r ∈ L, r.length = n) → j < n → (L.modify k (fun r => r.set j x)).flatten = L.flatten.set (k * n + j) x ∨ L.length ≤ k
  | [], k, j, _, _ => .inr (Nat.zero_le _)
  | r :: L, 0, j, hr, hj => by
    left
    have h := hr r (by simp)
    simp only [List.modify_zero_cons, List.flatten_cons, Nat.zero_mul, Nat.zero_add]
    rw [List.set_append_left _ _ (by omega)]
  | r :: L, k + 1, j, hr, hj => by
    have h := hr r (by simp)
    rcases flat_set x (L := L) k j (fun q hq => hr q (by simp [hq])) hj with ih | ih
    · left
      have e : (k + 1) * n + j - r.length = k * n + j := by rw [Nat.succ_mul]; omega
      simp only [List.modify_succ_cons, List.flatten_cons]
      rw [ih, List.set_append_right _ _ (by rw [Nat.succ_mul]; omega), e]
    · right; simp; omega
theorem flat_at {m n : Nat} {L : List (List Int)} (h : Dims m n L) {row col : Int} (r0 : 0 ≤ row) (r1 : row < m) (c0 : 0 ≤ col) (c1 : col < n) : L.flatten[row.toNat * n + col.toNat]? = some (at2 L row col) := by
  have hk : row.toNat < L.length := by rw [h.len]; omega
  have hl : (L[row.toNat]?.getD []).length = n := by
    rw [List.getElem?_eq_getElem hk]
    exact (h.rows _ (List.getElem_mem hk)).1
  rw [flat_get _ _ (fun r hr => (h.rows r hr).1) hk (by omega)]
  unfold at2
  rw [if_neg (by omega), List.getElem?_eq_getElem (by omega)]
  rfl
theorem flat_put {m n : Nat} {L : List (List Int)} (h : Dims m n L) {row col : Int} (x : Int) (r0 : 0 ≤ row) (r1 : row < m) (c0 : 0 ≤ col) (c1 : col < n) : (setL L row col x).flatten = L.flatten.set (row.toNat * n + col.toNat) x := by
  have hin : in2 L row col = true := by rw [in2_dims h]; exact decide_eq_true ⟨r0, r1, c0, c1⟩
  unfold setL
  rw [if_pos hin]
  rcases flat_set x row.toNat col.toNat (fun r hr => (h.rows r hr).1) (by omega) with e | e
  · exact e
  · rw [h.len] at e; omega
theorem place_bd {m n : Nat} {row col : Int} (m8 : m ≤ 8) (n128 : n ≤ 128) (r0 : 0 ≤ row) (r1 : row < m) (c0 : 0 ≤ col) (c1 : col < n) : 0 ≤ row * n ∧ row * n ≤ 1024 ∧ row * n + col < (m * n : Nat) ∧ row * n + col = ((row.toNat * n + col.toNat : Nat) : Int) := by
  obtain ⟨r, rfl⟩ : ∃ r : Nat, row = r := ⟨row.toNat, by omega⟩
  have h1 : (r + 1) * n ≤ m * n := Nat.mul_le_mul_right _ (by omega)
  have h2 : m * n ≤ 8 * 128 := Nat.mul_le_mul m8 n128
  rw [Nat.succ_mul] at h1
  have e : (r : Int) * n = ((r * n : Nat) : Int) := by simp
  simp only [e, Int.toNat_natCast]
  omega
/-- Where a cell stands. -/
def plc (n : Nat) (row col : Int) (b : Bool) : Int := if b = true then row * n + col else 0
theorem place_any (p : Addr) (F : Nat → Prop) (m n : Nat) (L : List (List Int)) (row col : Int) (w : World) (h : PG w p F m n L)
    (r0 : -9223372036854775808 ≤ row) (r1 : row ≤ 9223372036854775807) (c0 : -9223372036854775808 ≤ col) (c1 : col ≤ 9223372036854775807) :
    Calls Tryz.prog 204 #[.pointer (some p), .int .i64 row, .int .i64 col] w fun e w' => e = .returned (.tuple #[.int .i64 (plc n row col (in2 L row col)), .bool (in2 L row col)]) ∧ w' = w := by
  have e := in2_dims h.1 row col
  have m8 := h.1.m8
  have n128 := h.1.n128
  obtain ⟨hd, b, g, cap, rfl, hb, -⟩ := h
  have k0 := grd_cell hb 0 (v := .int .i64 m) rfl
  have k1 := grd_cell hb 1 (v := .int .i64 n) rfl
  clear hd hb
  by_cases h1 : row < 0
  · have e2 : in2 L row col = false := by rw [e]; exact decide_eq_false (by omega)
    rw [e2]
    clear e e2
    go_enter Tryz.func204, Tryz.ntmps204
    go_wp2
    go_ret2
    exact ⟨rfl, rfl⟩
  by_cases h2 : (m : Int) ≤ row
  · have e2 : in2 L row col = false := by rw [e]; exact decide_eq_false (by omega)
    rw [e2]
    clear e e2
    go_enter Tryz.func204, Tryz.ntmps204
    go_wp2
    go_ret2
    exact ⟨rfl, rfl⟩
  by_cases h3 : col < 0
  · have e2 : in2 L row col = false := by rw [e]; exact decide_eq_false (by omega)
    rw [e2]
    clear e e2
    go_enter Tryz.func204, Tryz.ntmps204
    go_wp2
    go_ret2
    exact ⟨rfl, rfl⟩
  by_cases h4 : (n : Int) ≤ col
  · have e2 : in2 L row col = false := by rw [e]; exact decide_eq_false (by omega)
    rw [e2]
    clear e e2
    go_enter Tryz.func204, Tryz.ntmps204
    go_wp2
    go_ret2
    exact ⟨rfl, rfl⟩
  have e2 : in2 L row col = true := by rw [e]; exact decide_eq_true (by omega)
  rw [e2]
  obtain ⟨p0, p1, p2, p3⟩ := place_bd (row := row) (col := col) m8 n128 (by omega) (by omega) (by omega) (by omega)
  clear e e2 p2 p3
  go_enter Tryz.func204, Tryz.ntmps204
  go_wp2
  go_ret2
  exact ⟨rfl, rfl⟩
theorem at_no {L : List (List Int)} {m n : Nat} (h : Dims m n L) {row col : Int} (hi : in2 L row col = false) : at2 L row col = 0 := by
  apply at2_out
  rw [in2_dims h] at hi
  have hi := of_decide_eq_false hi
  rw [h.len]
  by_cases h1 : 0 ≤ row ∧ row < m
  · have h2 : row.toNat < L.length := by rw [h.len]; omega
    have e : (L[row.toNat]?.getD []).length = n := by
      rw [List.getElem?_eq_getElem h2]
      exact (h.rows _ (List.getElem_mem h2)).1
    rw [e]
    omega
  · omega
theorem at_any (p : Addr) (F : Nat → Prop) (m n : Nat) (L : List (List Int)) (row col : Int) (w : World) (h : PG w p F m n L)
    (r0 : -9223372036854775808 ≤ row) (r1 : row ≤ 9223372036854775807) (c0 : -9223372036854775808 ≤ col) (c1 : col ≤ 9223372036854775807) :
    Calls Tryz.prog 201 #[.pointer (some p), .int .i64 row, .int .i64 col] w fun e w' => e = .returned (.int .i64 (at2 L row col)) ∧ Below w.heap.size w w' := by
  have C := Lib.hid (place_any p F m n L row col w h r0 r1 c0 c1)
  have hd := h.1
  obtain ⟨-, b, g, cap, rfl, hb, hm, hc, hx, -⟩ := h
  have k2 := grd_cell hb 2 (v := .slice (some ⟨g, 0, none⟩) (m * n) cap) rfl
  have hmn : m * n ≤ 1024 := Nat.mul_le_mul hd.m8 hd.n128
  obtain ⟨q, hq⟩ : ∃ q, q = m * n := ⟨_, rfl⟩
  rw [← hq] at k2 hmn hc
  cases hi : in2 L row col with
  | false =>
    have e := at_no hd hi
    rw [hi] at C
    rw [e]
    clear hd hm hb hi e hq
    go_enter Tryz.func201, Tryz.ntmps201
    go_wp2_with (go_at_call 204; ((with_reducible refine C.out.mono ?_)); rintro e w' ⟨rfl, rfl⟩)
    go_ret
    exact ⟨rfl, Below.refl _ _⟩
  | true =>
    have hi2 := hi
    rw [in2_dims hd] at hi2
    obtain ⟨g0, g1, g2, g3⟩ := of_decide_eq_true hi2
    obtain ⟨p0, p1, p2, p3⟩ := place_bd hd.m8 hd.n128 g0 g1 g2 g3
    have hv := flat_at hd g0 g1 g2 g3
    obtain ⟨ad, had⟩ : ∃ ad : Addr, (⟨g, 0, none⟩ : Addr) = ad := ⟨_, rfl⟩
    have hcell := hm.rd.at hv
    obtain ⟨k, hk⟩ : ∃ k, k = row.toNat * n + col.toNat := ⟨_, rfl⟩
    rw [← hk] at hcell p3
    have hkq : k < q := by omega
    have e1 : plc n row col true = k := p3
    rw [hi, e1] at C
    rw [had] at k2 hcell
    clear hd hm hb hi hi2 e1 p0 p1 p2 p3 hv had hk hq
    go_enter Tryz.func201, Tryz.ntmps201
    go_wp2_with (go_at_call 204; ((with_reducible refine C.out.mono ?_)); rintro e w' ⟨rfl, rfl⟩)
    go_ret
    exact ⟨rfl, Below.refl _ _⟩
theorem put_any (p : Addr) (F : Nat → Prop) (m n : Nat) (L : List (List Int)) (row col x : Int) (w : World) (h : PG w p F m n L)
    (r0 : -9223372036854775808 ≤ row) (r1 : row ≤ 9223372036854775807) (c0 : -9223372036854775808 ≤ col) (c1 : col ≤ 9223372036854775807) (x0 : -9223372036854775808 ≤ x) (x1 : x ≤ 9223372036854775807) :
    Calls Tryz.prog 200 #[.pointer (some p), .int .i64 row, .int .i64 col, .int .i64 x] w fun e w' => e = .returned (.bool (in2 L row col)) ∧ ∃ F', PG w' p F' m n (setL L row col x) ∧ Kept F w w' ∧ (∀ k, F' k → F k ∨ w.heap.size ≤ k) := by
  have C := Lib.hid (place_any p F m n L row col w h r0 r1 c0 c1)
  have HP := Lib.hid h
  have hd := h.1
  obtain ⟨-, b, g, cap, rfl, hb, hm, hc, hx, hbg, rfl⟩ := h
  have k2 := grd_cell hb 2 (v := .slice (some ⟨g, 0, none⟩) (m * n) cap) rfl
  have hmn : m * n ≤ 1024 := Nat.mul_le_mul hd.m8 hd.n128
  obtain ⟨q, hq⟩ : ∃ q, q = m * n := ⟨_, rfl⟩
  rw [← hq] at k2 hmn hc
  cases hi : in2 L row col with
  | false =>
    have e : setL L row col x = L := by unfold setL; rw [hi]; rfl
    rw [hi] at C
    rw [e]
    clear hd hm hb hi e hq
    go_enter Tryz.func200, Tryz.ntmps200
    go_wp2_with (go_at_call 204; ((with_reducible refine C.out.mono ?_)); rintro e w' ⟨rfl, rfl⟩)
    go_ret
    exact ⟨rfl, _, HP.out, Kept.refl _ _, fun k hk => .inl hk⟩
  | true =>
    have hi2 := hi
    rw [in2_dims hd] at hi2
    obtain ⟨g0, g1, g2, g3⟩ := of_decide_eq_true hi2
    obtain ⟨p0, p1, p2, p3⟩ := place_bd hd.m8 hd.n128 g0 g1 g2 g3
    have hv := flat_at hd g0 g1 g2 g3
    have hs := flat_put hd x g0 g1 g2 g3
    obtain ⟨ad, had⟩ : ∃ ad : Addr, (⟨g, 0, none⟩ : Addr) = ad := ⟨_, rfl⟩
    have hcell := hm.rd.at hv
    obtain ⟨k, hk⟩ : ∃ k, k = row.toNat * n + col.toNat := ⟨_, rfl⟩
    rw [← hk] at hcell p3 hs
    have hset := hm.set k x
    have hfz := hm.frozen (0 + k)
    have hkept : Kept (fun q => q = b ∨ q = g) w (w.setCell ⟨g, 0 + k, none⟩ (.int .i64 x)) := (Kept.refl _ w).set (.inl (.inr rfl)) _ _
    have hb2 : (w.setCell ⟨g, 0 + k, none⟩ (.int .i64 x)).heap[b]? = some (.cells #[.int .i64 m, .int .i64 n, .slice (some ⟨g, 0, none⟩) (m * n) cap] 251 (0, 0)) := ((Kept.refl (fun q => q = g) w).set (.inl rfl) _ _).heap hb hbg
    have HE : Hid (PG (w.setCell ⟨g, 0 + k, none⟩ (.int .i64 x)) ⟨b, 0, none⟩ (fun q => q = b ∨ q = g) m n (setL L row col x)) := Lib.hid ⟨hd.set row col x0 x1, b, g, cap, rfl, hb2, by rw [hs]; exact hset, by rw [← hq]; exact hc, hx, hbg, rfl⟩
    have HK := Lib.hid hkept
    have hkq : k < q := by omega
    have e1 : plc n row col true = k := p3
    rw [hi, e1] at C
    rw [← Ord.add_at, had] at hfz HE HK
    rw [had] at k2 hcell
    clear hd hm hb hi hi2 e1 p0 p1 p2 p3 hv had hk hq hset hkept hs hb2
    go_enter Tryz.func200, Tryz.ntmps200
    go_wp2_with (go_at_call 204; ((with_reducible refine C.out.mono ?_)); rintro e w' ⟨rfl, rfl⟩)
    go_ret
    exact ⟨rfl, _, HE.out, HK.out, fun k hk => .inl hk⟩
theorem pg_alloc {w : World} {p : Addr} {F : Nat → Prop} {m n : Nat} {L : List (List Int)} (h : PG w p F m n L) (o : Obj) : PG (w.alloc o) p F m n L :=
  (pgT p F m n L).keep w _ (fun _ => False) h (Kept.of_below (Lw.below_alloc (Below.refl _ _) o)) (fun _ _ h => h)
theorem pg_up {w w' : World} {p : Addr} {F : Nat → Prop} {m n : Nat} {L : List (List Int)} (h : PG w p F m n L) (hb : Below w.heap.size w w') : PG w' p F m n L :=
  (pgT p F m n L).keep w _ (fun _ => False) h (Kept.of_below hb) (fun _ _ h => h)
end Go.Proofs.YtkflggojiiebeaaGreat.Grd

namespace Go.Proofs.YtkflggojiiebeaaGreat.Grd
open Go Go.RowKit Lw
set_option linter.unusedVariables false
/-- Rows of one's own, behind a slice of headers. -/
structure RO (w : World) (B : Nat) (hdr : Value) (R : List Row) : Prop where
  outer : w.ownsRow B 54 1 hdr R.length (R.map rowHd)
  rows : ∀ r ∈ R, w.ownsRow B 2 1 (rowHd r) r.2.2.length (r.2.2.map (Value.int .i64))
  apart : ∀ r ∈ R, hdr.ownBlock ≠ some r.1
  nd : (R.map (·.1)).Nodup
theorem RO.keep {F : Nat → Prop} {w w' : World} {B : Nat} {hdr : Value} {R : List Row} (h : RO w B hdr R) (k : Kept F w w') (hf : ∀ q, B ≤ q → ¬ F q) : RO w' B hdr R where
  outer := k.own h.outer (fun q hq => hf q (own_ge h.outer q hq))
  rows := fun r hr => k.own (h.rows r hr) (fun q hq => hf q (own_ge (h.rows r hr) q hq))
  apart := h.apart
  nd := h.nd
end Go.Proofs.YtkflggojiiebeaaGreat.Grd

namespace Go.Proofs.YtkflggojiiebeaaGreat.Grd
open Go Go.RowKit Lw
set_option linter.unusedVariables false
def DG (w : World) (q : Addr) (G : Nat → Prop) (m n : Nat) (L : List (List Int)) : Prop :=
  ∃ b hdr R, q = ⟨b, 0, none⟩ ∧ RG w b hdr R ∧ nums R = L ∧ (∀ k, G k ↔ RF b hdr R k) ∧ Dims m n L
def dgT (q : Addr) (G : Nat → Prop) (m n : Nat) (L : List (List Int)) : Thing where
  I := fun w => DG w q G m n L
  F := G
  keep := fun w w' H h hk hf => by
    obtain ⟨b, hdr, R, e, hg, hn, hG, hd⟩ := h
    exact ⟨b, hdr, R, e, hg.keep hk (fun k hk' => hf k ((hG k).2 hk')), hn, hG, hd⟩
  lt := fun w h k hk => by
    obtain ⟨b, hdr, R, e, hg, hn, hG, hd⟩ := h
    exact hg.blt ((hG k).1 hk)
end Go.Proofs.YtkflggojiiebeaaGreat.Grd

namespace Go.Proofs.YtkflggojiiebeaaGreat.Lw
open Go Go.RowKit Grd
set_option linter.unusedVariables false
structure RR (w : World) (B : Nat) (eo : TypeId) (hdr : Value) (R : List Row) : Prop where
  outer : w.ownsRow B eo 1 hdr R.length (R.map rowHd)
  rows : ∀ r ∈ R, B ≤ r.1 ∧ r.1 < w.heap.size ∧ r.2.2.length ≤ r.2.1 ∧ r.2.1 ≤ maxLen ∧ hdr.ownBlock ≠ some r.1 ∧ Rd .i64 w (some ⟨r.1, 0, none⟩) r.2.2
def RRF (hdr : Value) (R : List Row) (k : Nat) : Prop := hdr.ownBlock = some k ∨ ∃ r ∈ R, r.1 = k
theorem RR.keep {F : Nat → Prop} {w w' : World} {B : Nat} {eo : TypeId} {hdr : Value} {R : List Row} (h : RR w B eo hdr R) (k : Kept F w w') (hf : ∀ q, RRF hdr R q → ¬ F q) : RR w' B eo hdr R := by
  refine ⟨k.own h.outer (fun q hq => hf q (.inl hq)), fun r hr => ?_⟩
  obtain ⟨h1, h2, h3, h4, h5, h6⟩ := h.rows r hr
  exact ⟨h1, Nat.lt_of_lt_of_le h2 k.size, h3, h4, h5, h6.keep k (fun a ha => by injection ha with ha; subst ha; exact hf r.1 (.inr ⟨r, hr, rfl⟩))⟩
theorem RR.lt {w : World} {B : Nat} {eo : TypeId} {hdr : Value} {R : List Row} (h : RR w B eo hdr R) {k : Nat} (hk : RRF hdr R k) : k < w.heap.size := by
  rcases hk with hk | ⟨r, hr, rfl⟩
  · exact own_lt h.outer hk
  · exact (h.rows r hr).2.1
theorem RR.hd {w : World} {B : Nat} {eo : TypeId} {hdr : Value} {R : List Row} (h : RR w B eo hdr R) : ∃ A cap, hdr = .slice A R.length cap ∧ R.length ≤ cap ∧ cap ≤ maxLen ∧ (A = none → R.length = 0 ∧ cap = 0) ∧ ∀ j r, R[j]? = some r → ∃ ad, A = some ad ∧ w.cell? (ad.add j) = some (rowHd r) := by
  rcases h.outer.2 with ⟨h1, h2⟩ | ⟨g, cap, cur, h1, h2, h3, h4, h5, h6, h7⟩
  · refine ⟨none, 0, by rw [h1, h2], by omega, by simp, fun _ => ⟨h2, rfl⟩, fun j r hj => ?_⟩
    have := (List.getElem?_eq_some_iff.1 hj).1
    omega
  · refine ⟨some ⟨g, 0, none⟩, cap, h1, h4, h5, (fun h => by cases h), fun j r hj => ⟨_, rfl, ?_⟩⟩
    exact h.outer.cells (g := g) (by rw [h1]; rfl) j _ (by rw [List.getElem?_map, hj]; rfl)
end Go.Proofs.YtkflggojiiebeaaGreat.Lw

namespace Go.Proofs.YtkflggojiiebeaaGreat.Shp
open Go Go.RowKit Lw
set_option linter.unusedVariables false
structure Cfg where
  bt : Int
  rw : Int
  wd : Int
  md : Int
  sd : Int
structure Cfg.Ok (c : Cfg) : Prop where
  b0 : -9223372036854775808 ≤ c.bt
  b1 : c.bt ≤ 9223372036854775807
  r0 : -9223372036854775808 ≤ c.rw
  r1 : c.rw ≤ 9223372036854775807
  w0 : -9223372036854775808 ≤ c.wd
  w1 : c.wd ≤ 9223372036854775807
  m0 : -9223372036854775808 ≤ c.md
  m1 : c.md ≤ 9223372036854775807
  s0 : 0 ≤ c.sd
  s1 : c.sd ≤ 18446744073709551615
def IsRight (c : Cfg) : Prop := 1 ≤ c.bt ∧ c.bt ≤ 59 ∧ 1 ≤ c.rw ∧ c.rw ≤ 8 ∧ 1 ≤ c.wd ∧ c.wd ≤ 128 ∧ 1 ≤ c.md ∧ c.md ≤ 3
instance (c : Cfg) : Decidable (IsRight c) := by unfold IsRight; infer_instance
def right (c : Cfg) : Bool := decide (IsRight c)
def keys (c : Cfg) (l : Int) : Int := if IsRight c ∧ 0 ≤ l ∧ l ≤ c.bt then 2 ^ (c.bt - l).toNat else 0
def exactB (c : Cfg) (l : Int) : Bool := decide (1 ≤ keys c l ∧ keys c l ≤ c.wd)
def aboveOk (c : Cfg) (l k : Int) : Bool := decide (keys c l ≠ 0 ∧ k < keys c 0)
def aboveV (c : Cfg) (l k : Int) : Int := if aboveOk c l k = true then k / 2 ^ l.toNat else 0
def col (c : Cfg) (l k : Int) (r : Nat) : Int := Hsh.buck (Sed.pairA c.sd l r) (Sed.pairB c.sd l r) k c.wd
def cols (c : Cfg) (l k : Int) : List Int := if k < keys c l then (List.range c.rw.toNat).map (col c l k) else []
theorem pow_pos2 (n : Nat) : (1 : Int) ≤ 2 ^ n := by
  have h : (0 : Int) < 2 ^ n := Int.pow_pos (by omega)
  omega
theorem pow_le2 {a b : Nat} (h : a ≤ b) : (2 : Int) ^ a ≤ 2 ^ b := by
  obtain ⟨d, rfl⟩ := Nat.exists_eq_add_of_le h
  rw [Int.pow_add]
  have h1 := pow_pos2 a
  have h2 := pow_pos2 d
  have := Int.mul_le_mul (Int.le_refl ((2 : Int) ^ a)) h2 (by omega) (by omega)
  simpa using this
theorem pow59 {a : Nat} (h : a ≤ 59) : (2 : Int) ^ a ≤ 576460752303423488 := by
  have := pow_le2 h
  have e : (2 : Int) ^ 59 = 576460752303423488 := by decide
  rwa [e] at this
theorem keys_bd (c : Cfg) (l : Int) : 0 ≤ keys c l ∧ keys c l ≤ 576460752303423488 := by
  unfold keys
  split
  · rename_i h
    have h1 := pow_pos2 (c.bt - l).toNat
    have h2 := pow59 (a := (c.bt - l).toNat) (by have := h.1.2.1; omega)
    omega
  · omega
theorem keys_yes {c : Cfg} {l : Int} (h : IsRight c) (h0 : 0 ≤ l) (h1 : l ≤ c.bt) : keys c l = 2 ^ (c.bt - l).toNat := if_pos ⟨h, h0, h1⟩
theorem keys_no {c : Cfg} {l : Int} (h : ¬ (IsRight c ∧ 0 ≤ l ∧ l ≤ c.bt)) : keys c l = 0 := if_neg h
theorem keys_pos {c : Cfg} {l : Int} : 1 ≤ keys c l ↔ IsRight c ∧ 0 ≤ l ∧ l ≤ c.bt := by
  constructor
  · intro h
    refine Decidable.by_contra fun hn => ?_
    rw [keys_no hn] at h
    omega
  · intro h
    rw [keys_yes h.1 h.2.1 h.2.2]
    exact pow_pos2 _
theorem cols_len (c : Cfg) (l k : Int) : (cols c l k).length = if k < keys c l then c.rw.toNat else 0 := by
  unfold cols
  split <;> simp
theorem col_bd (c : Cfg) (l k : Int) (r : Nat) : -1 ≤ col c l k r ∧ col c l k r ≤ 2305843009213693950 := Hsh.buck_bd _ _ _ _
theorem cols_in (c : Cfg) (l k : Int) : ∀ v ∈ cols c l k, -9223372036854775808 ≤ v ∧ v ≤ 9223372036854775807 := by
  intro v hv
  unfold cols at hv
  split at hv
  · obtain ⟨r, _, rfl⟩ := List.mem_map.1 hv
    have := col_bd c l k r
    omega
  · simp at hv
theorem col_range {c : Cfg} (h : IsRight c) (l k : Int) (r : Nat) : 0 ≤ col c l k r ∧ col c l k r < c.wd := by
  unfold col Hsh.buck
  obtain ⟨_, _, _, _, h1, h2, _, _⟩ := h
  rw [if_neg (by omega)]
  exact ⟨Int.emod_nonneg _ (by omega), Int.emod_lt_of_pos _ (by omega)⟩
end Go.Proofs.YtkflggojiiebeaaGreat.Shp

