/- done of layer 8's laws: a grid that many changes were made to, and their columns. Printed by wip/gen/lindone.py. -/
import Derived.Test.YtonbidohhgenlaaLinLawA
import Derived.Test.YtonbidohhgenlaaLinMath
import Derived.Test.YtonbidohhgenlaaRows2
import Derived.Deep.LoopGhost
import Derived.Deep.RegionHeld3
import Derived.Deep.QuietTactic
import Derived.BigQuiet
namespace Go.Proofs.Ytonbidohhgenlaa.Lin
open Go Go.RowKit Lw Grd
set_option linter.unusedVariables false
set_option linter.unusedSimpArgs false
structure Steps (w : World) (A : Option Addr) (n c : Nat) (qs : List StepV) : Prop where
  nil : A = none → n = 0 ∧ c = 0
  nc : n ≤ c
  cm : c ≤ maxLen
  len : qs.length = n
  each : ∀ (i : Nat) q, qs[i]? = some q → q.In w ∧ ∃ a, A = some a ∧ w.cell? (a.add (i * 2)) = some (.slice q.A q.n q.c) ∧ w.cell? (a.add (i * 2 + 1)) = some (.int .i64 q.d)
theorem StepV.In.up {q : StepV} {w w' : World} (h : q.In w) (hb : Below w.heap.size w w') : q.In w' := ⟨h.nil, h.nc, h.cm, h.rd.up hb, h.len, h.zb, h.db⟩
theorem Steps.up {w w' : World} {A : Option Addr} {n c : Nat} {qs : List StepV} (h : Steps w A n c qs) (hb : Below w.heap.size w w') : Steps w' A n c qs :=
  ⟨h.nil, h.nc, h.cm, h.len, fun i q hq => by
    obtain ⟨h1, a, e, h2, h3⟩ := h.each i q hq
    exact ⟨h1.up hb, a, e, cell_up h2 hb, cell_up h3 hb⟩⟩
theorem Steps.at {w : World} {A : Option Addr} {n c : Nat} {qs : List StepV} (h : Steps w A n c qs) {i : Nat} {q : StepV} (hq : qs[i]? = some q) : ∃ (a : Addr) (g o : Nat), A = some a ∧ a.add (i * 2) = ⟨g, o, none⟩ ∧ w.cell? ⟨g, o, none⟩ = some (.slice q.A q.n q.c) ∧ w.cell? ⟨g, o + 1, none⟩ = some (.int .i64 q.d) ∧ q.In w := by
  obtain ⟨hin, a, e, h1, h2⟩ := h.each i q hq
  rw [← add_add'] at h2
  have hs : (a.add (i * 2)).spot = none := by
    unfold World.cell? at h1
    split at h1
    · split at h1
      · cases h1
      · rename_i hs; simpa using hs
    · cases h1
  obtain ⟨ad, had⟩ : ∃ ad, a.add (i * 2) = ad := ⟨_, rfl⟩
  rw [had] at h1 h2 hs
  obtain ⟨g, o, sp⟩ := ad
  simp only at hs
  subst hs
  rw [Ord.add_at] at h2
  exact ⟨a, g, o, e, had, h1, h2, hin⟩
/-- A number cut to a small one; plain: as far from 0, above it. -/
def dv (plain : Bool) (d : Int) : Int := if plain = true then (if 0 ≤ Int.tmod d 1099511627776 then Int.tmod d 1099511627776 else -Int.tmod d 1099511627776) else Int.tmod d 1099511627776
theorem tmod_bd (d : Int) : -1099511627776 < Int.tmod d 1099511627776 ∧ Int.tmod d 1099511627776 < 1099511627776 := by
  have h1 := Int.tmod_lt_of_pos d (show (0 : Int) < 1099511627776 by omega)
  have h3 := Int.tmod_lt_of_pos (-d) (show (0 : Int) < 1099511627776 by omega)
  rw [Int.neg_tmod] at h3
  omega
theorem dv_bd (plain : Bool) (d : Int) : -1099511627776 ≤ dv plain d ∧ dv plain d ≤ 1099511627776 := by
  have := tmod_bd d
  unfold dv
  split
  · split <;> omega
  · omega
theorem dv_plain (d : Int) : 0 ≤ dv true d := by
  unfold dv
  rw [if_pos rfl]
  split <;> omega
def idx (turned : Bool) (N k : Nat) : Nat := if turned = true then N - 1 - k else k
def opsOf (turned plain : Bool) (m n : Nat) (qs : List StepV) : Ops := (if turned = true then (qs.take 60).reverse else qs.take 60).map (fun q => (cutOf q.zs m n, dv plain q.d))
theorem ops_len (turned plain : Bool) (m n : Nat) (qs : List StepV) : (opsOf turned plain m n qs).length = min 60 qs.length := by
  unfold opsOf
  cases turned <;> simp
theorem ops_get (turned plain : Bool) (m n : Nat) (qs : List StepV) {N k : Nat} (hN : N = min 60 qs.length) (hk : k < N) {q : StepV} (hq : qs[idx turned N k]? = some q) : (opsOf turned plain m n qs)[k]? = some (cutOf q.zs m n, dv plain q.d) := by
  have hl : (qs.take 60).length = N := by rw [List.length_take, hN]
  unfold opsOf
  rw [List.getElem?_map]
  cases turned with
  | false =>
    unfold idx at hq
    rw [if_neg (by decide)] at hq ⊢
    rw [List.getElem?_take, if_pos (by omega), hq]
    rfl
  | true =>
    unfold idx at hq
    rw [if_pos rfl] at hq ⊢
    rw [List.getElem?_reverse (by omega), hl, List.getElem?_take, if_pos (by omega), hq]
    rfl
theorem cut_meets (cols : List Int) {m n : Nat} (hm : 1 ≤ m) (hn : 1 ≤ n) : Meets m n (cutOf cols m n) := ⟨hm, cut_len _ _ _, cut_in _ _ _ hn⟩
theorem ops_ok (turned plain : Bool) {m n : Nat} (qs : List StepV) (hm : 1 ≤ m) (hn : 1 ≤ n) : OpsOk m n 1099511627776 (opsOf turned plain m n qs) := by
  intro o ho
  unfold opsOf at ho
  obtain ⟨q, _, rfl⟩ := List.mem_map.1 ho
  exact ⟨cut_meets _ hm hn, dv_bd _ _⟩
theorem ops_turned (plain : Bool) (m n : Nat) (qs : List StepV) : opsOf true plain m n qs = (opsOf false plain m n qs).reverse := by
  unfold opsOf
  simp
/-- What is left of a change, in the midst of all. -/
theorem step_ok {m n : Nat} {ops : Ops} (h : OpsOk m n 1099511627776 ops) (hl : ops.length ≤ 60) (m8 : m ≤ 8) (n128 : n ≤ 128) {k : Nat} {o : List Int × Int} (ho : ops[k]? = some o) :
    chCode m n (chAll (zerosL m n) (ops.take k)) o.1 o.2 = 0 ∧ chRes m n (chAll (zerosL m n) (ops.take k)) o.1 o.2 = chAll (zerosL m n) (ops.take (k + 1)) := by
  have hw := chAll_within (c := 1099511627776) (by omega) (b := 0) (Int.le_refl _) (within_zeros m n) (opsok_take h k)
  have hk : (ops.take k).length ≤ 60 := by rw [List.length_take]; omega
  have ho2 := h o (List.mem_of_getElem? ho)
  have hf := fits_within (cols := o.1) (d := o.2) (within_mono hw (c := 65970697666560) (by omega)) (by omega) ho2.2 (by omega)
  have := ch_ok ho2.1 hf
  rw [chAll_next _ _ _ _ ho]
  exact this
theorem cutrow_in {cols : List Int} {m n : Nat} (hn : 1 ≤ n) (hn2 : n ≤ 65536) : In64 (cutOf cols m n) := fun v hv => by
  have := cut_in cols m n hn v hv
  omega
theorem ints_info : (Try.prog.info? 30).map (fun i => (i.zero, i.size, i.bytes)) = some (some (.slice none 0 0), 1, 24) := by kernel_rfl
theorem intss_u : Try.prog.underlying 42 = some (.slice 30) := by kernel_rfl
theorem own_block {w : World} {base : Nat} {e : TypeId} {A : Addr} {n cap : Nat} {xs : List Value} (h : w.ownsRow base e 1 (.slice (some A) n cap) n xs) : ∃ g, A = ⟨g, 0, none⟩ ∧ base ≤ g ∧ g < w.heap.size := by
  have hl := fun g hg => own_lt h (g := g) hg
  rcases h.2 with ⟨h3, _⟩ | ⟨g, cap2, cur, h3, hbase, hh, _⟩
  · cases h3
  · injection h3 with h3 h4 h5
    injection h3 with h3
    subst h3
    exact ⟨g, rfl, hbase, hl g rfl⟩
theorem hdr_apart {w0 w : World} {t : Thing} {B : Nat} {eo : TypeId} {hdr : Value} {R : List Row} {ts : List Thing} {A : Addr} {N : Nat} (h : Have w0 w (t :: rrT B eo hdr R :: ts)) (hA : ∃ g, A = ⟨g, 0, none⟩ ∧ w.heap.size ≤ g ∧ g < N) : ∀ a, some A = some a → ¬ hdr.ownBlock = some a.block := by
  intro a ha e
  injection ha with ha
  subst ha
  obtain ⟨g, rfl, h1, _⟩ := hA
  have := own_lt (rr_of h).outer e
  simp only at this
  omega
theorem pg_apart {w0 w : World} {p : Addr} {F : Nat → Prop} {m n : Nat} {L : List (List Int)} {ts : List Thing} {A : Addr} {N : Nat} (h : Have w0 w (pgT p F m n L :: ts)) (hA : ∃ g, A = ⟨g, 0, none⟩ ∧ w.heap.size ≤ g ∧ g < N) : ∀ a, some A = some a → ¬ F a.block := by
  intro a ha e
  injection ha with ha
  subst ha
  obtain ⟨g, rfl, h1, _⟩ := hA
  have := (pgT p F m n L).lt w h.1 _ e
  simp only at this
  omega
theorem done_start {w w' : World} {p : Addr} {F : Nat → Prop} {m n : Nat} {L : List (List Int)} {t : Thing} {B : Nat} {eo : TypeId} (h : Have w w' [pgT p F m n L, t]) : Have w w' [pgT p F m n L, rrT B eo (.slice none 0 0) [], t] := by
  have no : ∀ k, ¬ RRF (.slice none 0 0) [] k := fun k h2 => by
    rcases h2 with h2 | ⟨r, hr, _⟩
    · simp [Value.ownBlock] at h2
    · simp at hr
  refine ⟨h.1, h.2.1, fun u hu k h1 h2 => ?_, rr_start w' B eo, fun k h2 => (no k h2).elim, fun u hu k h2 => (no k h2).elim, h.2.2.2⟩
  simp only [List.mem_cons, List.not_mem_nil, or_false] at hu
  rcases hu with rfl | rfl
  · exact no k h2
  · exact h.2.2.1 _ (by simp) k h1 h2
end Go.Proofs.Ytonbidohhgenlaa.Lin
