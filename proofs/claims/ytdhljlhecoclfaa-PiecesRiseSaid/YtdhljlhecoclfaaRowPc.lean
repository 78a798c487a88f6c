/- Rows of pieces: a level and an index, two cells each. Printed by wip/gen/pcsrow.py. -/
import Derived.Test.YtdhljlhecoclfaaRow
import Derived.Test.YtdhljlhecoclfaaKept
import Derived.Test.YtdhljlhecoclfaaThings
import Derived.Test.YtdhljlhecoclfaaOrdMid
import Derived.Deep.AppendLies
namespace Go.Proofs.Ytdhljlhecoclfaa.Pcs
open Go Go.RowKit Lw
set_option linter.unusedVariables false
/-- The cells of pairs. -/
def flatP (us : List (Int × Int)) : List Value := us.flatMap (fun u => [.int .i64 u.1, .int .u64 u.2])
theorem flatP_len : ∀ us : List (Int × Int), (flatP us).length = 2 * us.length
  | [] => rfl
  | u :: us => by
    have := flatP_len us
    unfold flatP at this ⊢
    simp only [List.flatMap_cons, List.length_append, List.length_cons, List.length_nil, this]
    omega
theorem flatP_next {us : List (Int × Int)} {k : Nat} {u : Int × Int} (h : us[k]? = some u) : flatP (us.take (k + 1)) = flatP (us.take k) ++ [.int .i64 u.1, .int .u64 u.2] := by
  obtain ⟨h1, h2⟩ := List.getElem?_eq_some_iff.1 h
  rw [List.take_succ_eq_append_getElem h1, h2]
  unfold flatP
  simp
theorem flatP_snoc (us : List (Int × Int)) (u : Int × Int) : flatP (us ++ [u]) = flatP us ++ [.int .i64 u.1, .int .u64 u.2] := by
  unfold flatP
  simp
theorem flatP_get : ∀ {us : List (Int × Int)} {k : Nat} {u : Int × Int}, us[k]? = some u → (flatP us)[k * 2]? = some (.int .i64 u.1) ∧ (flatP us)[k * 2 + 1]? = some (.int .u64 u.2)
  | [], k, u, h => by simp at h
  | v :: us, 0, u, h => by
    simp at h
    subst h
    unfold flatP
    simp
  | v :: us, k + 1, u, h => by
    have ih := flatP_get (us := us) (k := k) (u := u) (by simpa using h)
    have e : (k + 1) * 2 = k * 2 + 1 + 1 := by omega
    rw [e]
    unfold flatP at ih ⊢
    simpa using ih
theorem pc_info : (Try.prog.info? 30).map (fun i => (i.zero, i.size, i.bytes)) = some (some (.agg #[.int .i64 0, .int .u64 0]), 2, 16) := by kernel_rfl
theorem pcs_u : Try.prog.underlying 24 = some (.slice 30) := by kernel_rfl
theorem pc_news {w : World} {B : Nat} {U D : Int} {t : TypeId} {fr : Nat × Nat} (h : w.heap[B]? = some (.cells #[.int .i64 U, .int .u64 D] t fr)) : ∀ j u, ([.int .i64 U, .int .u64 D] : List Value)[j]? = some u → w.cell? ((⟨B, 0, none⟩ : Addr).add j) = some u :=
  World.news_of_block h
theorem pc_one (U D : Int) : ∀ u ∈ ([.int .i64 U, .int .u64 D] : List Value), u.oneCell' = true := by
  intro u hu
  simp at hu
  rcases hu with rfl | rfl <;> rfl
/-- What lies in a row of pairs of one's own. -/
theorem own_pc {w : World} {base : Nat} {e : TypeId} {g n cap : Nat} {us : List (Int × Int)} (h : w.ownsRow base e 2 (.slice (some ⟨g, 0, none⟩) n cap) n (flatP us)) {k : Nat} {u : Int × Int} (hu : us[k]? = some u) :
    w.cell? ((⟨g, 0, none⟩ : Addr).add (k * 2)) = some (.int .i64 u.1) ∧ w.cell? ((⟨g, 0, none⟩ : Addr).add (k * 2 + 1)) = some (.int .u64 u.2) :=
  ⟨h.cells (g := g) rfl _ _ (flatP_get hu).1, h.cells (g := g) rfl _ _ (flatP_get hu).2⟩
structure PcV (w : World) (A : Option Addr) (n c : Nat) (qs : List (Int × Int)) : Prop where
  nil : A = none → n = 0 ∧ c = 0
  nc : n ≤ c
  cm : c ≤ maxLen
  len : qs.length = n
  each : ∀ (i : Nat) q, qs[i]? = some q → ∃ a, A = some a ∧ w.cell? (a.add (i * 2)) = some (.int .i64 (q.1)) ∧ w.cell? (a.add (i * 2 + 1)) = some (.int .u64 (q.2)) ∧ (-9223372036854775808 ≤ (q.1) ∧ (q.1) ≤ 9223372036854775807) ∧ (0 ≤ (q.2) ∧ (q.2) ≤ 18446744073709551615)
theorem PcV.up {w w' : World} {A : Option Addr} {n c : Nat} {qs : List (Int × Int)} (h : PcV w A n c qs) (hb : Below w.heap.size w w') : PcV w' A n c qs :=
  ⟨h.nil, h.nc, h.cm, h.len, fun i q hq => by
    obtain ⟨a, e, h1, h2, h3⟩ := h.each i q hq
    exact ⟨a, e, cell_up h1 hb, cell_up h2 hb, h3⟩⟩
theorem PcV.at {w : World} {A : Option Addr} {n c : Nat} {qs : List (Int × Int)} (h : PcV w A n c qs) {i : Nat} {q : Int × Int} (hq : qs[i]? = some q) : ∃ (a : Addr) (g o : Nat), A = some a ∧ a.add (i * 2) = ⟨g, o, none⟩ ∧ w.cell? ⟨g, o, none⟩ = some (.int .i64 q.1) ∧ w.cell? ⟨g, o + 1, none⟩ = some (.int .u64 q.2) ∧ (-9223372036854775808 ≤ q.1 ∧ q.1 ≤ 9223372036854775807) ∧ (0 ≤ q.2 ∧ q.2 ≤ 18446744073709551615) := by
  obtain ⟨a, e, h1, h2, h3, h4⟩ := h.each i q hq
  rw [← add_add'] at h2
  have hs : (a.add (i * 2)).spot = none := by
    unfold World.cell? at h1
    split at h1
    · split at h1
      · cases h1
      · rename_i hs; simpa using hs
    · cases h1
  obtain ⟨ad, had⟩ : ∃ ad, a.add (i * 2) = ad := ⟨_, rfl⟩
  rw [had] at h1 h2 hs
  obtain ⟨g, o, sp⟩ := ad
  simp only at hs
  subst hs
  rw [Ord.add_at] at h2
  exact ⟨a, g, o, e, had, h1, h2, h3, h4⟩
theorem add_block (a : Addr) (j : Nat) : (a.add j).block = a.block := by
  unfold Addr.add
  split <;> rfl
theorem PcV.keep {w w' : World} {A : Option Addr} {n c : Nat} {qs : List (Int × Int)} {H : Nat → Prop} (h : PcV w A n c qs) (hk : Kept H w w') (hf : ∀ a, A = some a → ¬ H a.block) : PcV w' A n c qs :=
  ⟨h.nil, h.nc, h.cm, h.len, fun i q hq => by
    obtain ⟨a, e, h1, h2, h3⟩ := h.each i q hq
    exact ⟨a, e, hk.cell h1 (by rw [add_block]; exact hf a e), hk.cell h2 (by rw [add_block]; exact hf a e), h3⟩⟩
def pcT (A : Option Addr) (n c : Nat) (us : List (Int × Int)) : Thing where
  I := fun w => PcV w A n c us ∧ ∀ a, A = some a → a.block < w.heap.size
  F := fun k => ∃ a, A = some a ∧ a.block = k
  keep := fun w w' H h hk hf => ⟨h.1.keep hk (fun a e => hf _ ⟨a, e, rfl⟩), fun a e => Nat.lt_of_lt_of_le (h.2 a e) hk.size⟩
  lt := fun w h k hk => by
    obtain ⟨a, e, rfl⟩ := hk
    exact h.2 a e
theorem pcI {w : World} {A : Option Addr} {n c : Nat} {us : List (Int × Int)} (h : (pcT A n c us).I w) : PcV w A n c us := h.1
/-- What a row of pieces of one's own is. -/
theorem pc_own {w : World} {base : Nat} {e : TypeId} {v : Value} {n : Nat} {us : List (Int × Int)} (h : w.ownsRow base e 2 v n (flatP us)) (hl : us.length = n) (hb : ∀ u ∈ us, (-9223372036854775808 ≤ u.1 ∧ u.1 ≤ 9223372036854775807) ∧ (0 ≤ u.2 ∧ u.2 ≤ 18446744073709551615)) :
    ∃ A cap, v = .slice A n cap ∧ (pcT A n cap us).I w ∧ ∀ k, (pcT A n cap us).F k → base ≤ k := by
  have hge := own_ge h
  rcases h.2 with ⟨h1, h2⟩ | ⟨g, cap, cur, h1, h2, h3, h4, h5, h6, h7⟩
  · subst h2
    refine ⟨none, 0, by rw [h1], ⟨⟨fun _ => ⟨rfl, rfl⟩, Nat.le_refl _, by decide, hl, fun i q hq => ?_⟩, (fun a e => by cases e)⟩, (fun k hk => by obtain ⟨a, e, _⟩ := hk; cases e)⟩
    have := (List.getElem?_eq_some_iff.1 hq).1
    omega
  · subst h1
    have hg : g < w.heap.size := own_lt h rfl
    refine ⟨some ⟨g, 0, none⟩, cap, rfl, ⟨⟨(fun e => by cases e), h4, by assumption, hl, fun i q hq => ⟨_, rfl, (own_pc h hq).1, (own_pc h hq).2, hb q (List.mem_of_getElem? hq)⟩⟩, (fun a e => by injection e with e; subst e; exact hg)⟩, fun k hk => ?_⟩
    obtain ⟨a, e, rfl⟩ := hk
    injection e with e
    subst e
    exact hge g rfl
end Go.Proofs.Ytdhljlhecoclfaa.Pcs
