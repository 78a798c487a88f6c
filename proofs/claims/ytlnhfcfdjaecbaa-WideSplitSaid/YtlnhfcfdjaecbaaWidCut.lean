/- Lists that a law cuts: 'append([]int64{}, l[:m]...)'. Printed by wip/gen/wid7.py. -/
import Derived.Test.YtlnhfcfdjaecbaaWidRSum
import Derived.WalkSpells
import Derived.Laws.AppendOwnNone
namespace Go.Proofs.Ytlnhfcfdjaecbaa.Wid
open Go.RowKit Lw
set_option linter.unusedVariables false
theorem own_empty (w : World) (e : TypeId) (size base : Nat) (hb : base ≤ w.heap.size) : (w.alloc (.cells #[] e)).ownsRow base e size (.slice (some ⟨w.heap.size, 0, none⟩) 0 0) 0 [] :=
  ⟨by simp, .inr ⟨w.heap.size, 0, #[], rfl, hb, heap_alloc_new w _, Nat.le_refl _, by simp, by simp, by simp⟩⟩
theorem app_below {X w2 : World} {o : Obj} {g : Nat} (h : (X.alloc o).grownBy w2 (some g)) (hg : X.heap.size ≤ g) : Below X.heap.size X w2 :=
  ((Below.refl _ _).alloc (Nat.le_refl _) o).grown h (by simp) (fun k hk => by injection hk with hk; omega)
theorem own_rd {w : World} {base : Nat} {e : TypeId} {v : Value} {n : Nat} {zs : List Int} (h : w.ownsRow base e 1 v n (zs.map (Value.int .i64))) : ∃ A cap, v = .slice A n cap ∧ RdI w A zs ∧ n ≤ cap ∧ cap ≤ maxLen ∧ (A = none → n = 0) := by
  have h0 := h
  obtain ⟨h1, h2⟩ := h
  rcases h2 with ⟨rfl, rfl⟩ | ⟨g, cap, cur, rfl, hbase, hh, hl, hm, _⟩
  · refine ⟨none, 0, rfl, ?_, Nat.le_refl _, by simp, fun _ => rfl⟩
    intro k v hk
    have : zs = [] := by simpa using h1
    subst this
    simp at hk
  · refine ⟨some ⟨g, 0, none⟩, cap, rfl, ?_, hl, hm, fun h => by cases h⟩
    intro k v hk
    exact ⟨_, rfl, h0.cells (g := g) rfl k _ (by rw [List.getElem?_map, hk]; rfl)⟩
theorem i64_info : (Try.prog.info? 2).map (fun i => (i.zero, i.size, i.bytes)) = some (some (.int .i64 0), 1, 8) := by kernel_rfl
theorem i64s_u : Try.prog.underlying 44 = some (.slice 2) := by kernel_rfl
theorem rd_news {w w1 : World} {ad : Addr} {zs : List Int} (h : RdI w (some ad) zs) (hb : Below w.heap.size w w1) (m : Nat) : ∀ j u, ((zs.take m).map (Value.int .i64))[j]? = some u → w1.cell? (ad.add j) = some u := by
  intro j u hj
  rw [List.getElem?_map] at hj
  obtain ⟨v, hv, rfl⟩ := Option.map_eq_some_iff.1 hj
  have hv2 : zs[j]? = some v := by
    rw [List.getElem?_take] at hv
    split at hv
    · exact hv
    · cases hv
  obtain ⟨ad2, e, hc⟩ := h j v hv2
  injection e with e
  subst e
  exact cell_on hb hc
theorem in64_take {zs : List Int} (h : In64 zs) (m : Nat) : In64 (zs.take m) := fun v hv => h v (List.mem_of_mem_take hv)
theorem one_ints (l : List Int) : ∀ u ∈ l.map (Value.int .i64), u.oneCell' = true := by
  intro u hu
  obtain ⟨v, _, rfl⟩ := List.mem_map.1 hu
  rfl
theorem rd_nil (w : World) (A : Option Addr) : RdI w A [] := fun k v h => by simp at h
theorem in64_nil : In64 [] := fun v h => by simp at h
theorem i64_c : Try.prog.cellsOf 2 = 1 := by kernel_rfl
end Go.Proofs.Ytlnhfcfdjaecbaa.Wid
