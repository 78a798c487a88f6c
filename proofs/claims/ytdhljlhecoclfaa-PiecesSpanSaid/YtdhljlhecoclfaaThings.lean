/- Things side by side, by their place. For every stage that has things with memory. Printed by wip/gen/things.py. -/
import Derived.Test.YtdhljlhecoclfaaThing
namespace Go.Proofs.Ytdhljlhecoclfaa.Lw
open Go Go.RowKit
set_option linter.unusedVariables false
theorem Have.turnX {w0 w w' : World} {t : Thing} {ts : List Thing} (t' : Thing) (ht : t'.I w') (hk : Kept t.F w w') (hF : ∀ k, t'.F k → t.F k ∨ w.heap.size ≤ k) : ∀ {fs : List Thing}, Have w0 w (fs ++ t :: ts) → Have w0 w' (fs ++ t' :: ts)
  | [], h => Have.turn0 h t' ht hk hF
  | a :: fs, h => by
    refine Have.under (ts := fs ++ t :: ts) h t.F hk (fun k h1 h2 => h.2.2.1 t (by simp) k h1 h2) (Have.turnX t' ht hk hF (fs := fs) h.2.2.2) ?_
    intro u hu k hk2
    rcases List.mem_append.1 hu with h1 | h1
    · exact .inl ⟨u, by simp [h1], hk2⟩
    · rcases List.mem_cons.1 h1 with rfl | h1
      · rcases hF k hk2 with h3 | h3
        · exact .inl ⟨t, by simp, h3⟩
        · exact .inr h3
      · exact .inl ⟨u, by simp [h1], hk2⟩
theorem Have.dropX {w0 w : World} {t : Thing} {ts : List Thing} : ∀ {fs : List Thing}, Have w0 w (fs ++ t :: ts) → Have w0 w (fs ++ ts)
  | [], h => h.2.2.2
  | a :: fs, h => ⟨h.1, h.2.1, fun u hu => h.2.2.1 u (by rcases List.mem_append.1 hu with h1 | h1 <;> simp [h1]), Have.dropX (fs := fs) h.2.2.2⟩
/-- A thing that has no blocks yet is put in. -/
theorem Have.insX {w0 w : World} {ts : List Thing} (t : Thing) (ht : t.I w) (hn : ∀ k, ¬ t.F k) : ∀ {fs : List Thing}, Have w0 w (fs ++ ts) → Have w0 w (fs ++ t :: ts)
  | [], h => ⟨ht, fun k hk => absurd hk (hn k), fun u hu k hk => absurd hk (hn k), h⟩
  | a :: fs, h => ⟨h.1, h.2.1, fun u hu k hk => by
      rcases List.mem_append.1 hu with h1 | h1
      · exact h.2.2.1 u (by simp [h1]) k hk
      · rcases List.mem_cons.1 h1 with rfl | h1
        · exact hn k
        · exact h.2.2.1 u (by simp [h1]) k hk, Have.insX t ht hn (fs := fs) h.2.2.2⟩
theorem Have.far {w0 w : World} {ts : List Thing} (h : Have w0 w ts) {t : Thing} (ht : t ∈ ts) : ∀ k, t.F k → w0.heap.size ≤ k := (h.one t ht).2
/-- A thing is put in front of the others: what was made behind w. -/
theorem Have.front {w0 w w' : World} {ts : List Thing} (h : Have w0 w ts) (t : Thing) (hb : Below w.heap.size w w') (ht : t.I w') (hn : ∀ k, t.F k → w.heap.size ≤ k) : Have w0 w' (t :: ts) := h.push t hb ht hn
theorem Have.i0 {w0 w : World} {t0 : Thing} {ts : List Thing} (h : Have w0 w (t0 :: ts)) : t0.I w := (h.one t0 (by simp)).1
theorem Have.f0 {w0 w : World} {t0 : Thing} {ts : List Thing} (h : Have w0 w (t0 :: ts)) : ∀ k, t0.F k → w0.heap.size ≤ k := (h.one t0 (by simp)).2
theorem Have.turn_0 {w0 w w' : World} {t0 : Thing} {ts : List Thing} (h : Have w0 w (t0 :: ts)) (t' : Thing) (ht : t'.I w') (hk : Kept t0.F w w') (hF : ∀ k, t'.F k → t0.F k ∨ w.heap.size ≤ k) : Have w0 w' (t' :: ts) := Have.turnX (fs := []) t' ht hk hF h
theorem Have.drop_0 {w0 w : World} {t0 : Thing} {ts : List Thing} (h : Have w0 w (t0 :: ts)) : Have w0 w (ts) := Have.dropX (fs := []) h
theorem Have.ins_0 {w0 w : World} {ts : List Thing} (h : Have w0 w (ts)) (t : Thing) (ht : t.I w) (hn : ∀ k, ¬ t.F k) : Have w0 w (t :: ts) := Have.insX (fs := []) t ht hn h
theorem Have.i1 {w0 w : World} {t0 t1 : Thing} {ts : List Thing} (h : Have w0 w (t0 :: t1 :: ts)) : t1.I w := (h.one t1 (by simp)).1
theorem Have.f1 {w0 w : World} {t0 t1 : Thing} {ts : List Thing} (h : Have w0 w (t0 :: t1 :: ts)) : ∀ k, t1.F k → w0.heap.size ≤ k := (h.one t1 (by simp)).2
theorem Have.turn_1 {w0 w w' : World} {t0 t1 : Thing} {ts : List Thing} (h : Have w0 w (t0 :: t1 :: ts)) (t' : Thing) (ht : t'.I w') (hk : Kept t1.F w w') (hF : ∀ k, t'.F k → t1.F k ∨ w.heap.size ≤ k) : Have w0 w' (t0 :: t' :: ts) := Have.turnX (fs := [t0]) t' ht hk hF h
theorem Have.drop_1 {w0 w : World} {t0 t1 : Thing} {ts : List Thing} (h : Have w0 w (t0 :: t1 :: ts)) : Have w0 w (t0 :: ts) := Have.dropX (fs := [t0]) h
theorem Have.ins_1 {w0 w : World} {t0 : Thing} {ts : List Thing} (h : Have w0 w (t0 :: ts)) (t : Thing) (ht : t.I w) (hn : ∀ k, ¬ t.F k) : Have w0 w (t0 :: t :: ts) := Have.insX (fs := [t0]) t ht hn h
theorem Have.i2 {w0 w : World} {t0 t1 t2 : Thing} {ts : List Thing} (h : Have w0 w (t0 :: t1 :: t2 :: ts)) : t2.I w := (h.one t2 (by simp)).1
theorem Have.f2 {w0 w : World} {t0 t1 t2 : Thing} {ts : List Thing} (h : Have w0 w (t0 :: t1 :: t2 :: ts)) : ∀ k, t2.F k → w0.heap.size ≤ k := (h.one t2 (by simp)).2
theorem Have.turn_2 {w0 w w' : World} {t0 t1 t2 : Thing} {ts : List Thing} (h : Have w0 w (t0 :: t1 :: t2 :: ts)) (t' : Thing) (ht : t'.I w') (hk : Kept t2.F w w') (hF : ∀ k, t'.F k → t2.F k ∨ w.heap.size ≤ k) : Have w0 w' (t0 :: t1 :: t' :: ts) := Have.turnX (fs := [t0, t1]) t' ht hk hF h
theorem Have.drop_2 {w0 w : World} {t0 t1 t2 : Thing} {ts : List Thing} (h : Have w0 w (t0 :: t1 :: t2 :: ts)) : Have w0 w (t0 :: t1 :: ts) := Have.dropX (fs := [t0, t1]) h
theorem Have.ins_2 {w0 w : World} {t0 t1 : Thing} {ts : List Thing} (h : Have w0 w (t0 :: t1 :: ts)) (t : Thing) (ht : t.I w) (hn : ∀ k, ¬ t.F k) : Have w0 w (t0 :: t1 :: t :: ts) := Have.insX (fs := [t0, t1]) t ht hn h
theorem Have.i3 {w0 w : World} {t0 t1 t2 t3 : Thing} {ts : List Thing} (h : Have w0 w (t0 :: t1 :: t2 :: t3 :: ts)) : t3.I w := (h.one t3 (by simp)).1
theorem Have.f3 {w0 w : World} {t0 t1 t2 t3 : Thing} {ts : List Thing} (h : Have w0 w (t0 :: t1 :: t2 :: t3 :: ts)) : ∀ k, t3.F k → w0.heap.size ≤ k := (h.one t3 (by simp)).2
theorem Have.turn_3 {w0 w w' : World} {t0 t1 t2 t3 : Thing} {ts : List Thing} (h : Have w0 w (t0 :: t1 :: t2 :: t3 :: ts)) (t' : Thing) (ht : t'.I w') (hk : Kept t3.F w w') (hF : ∀ k, t'.F k → t3.F k ∨ w.heap.size ≤ k) : Have w0 w' (t0 :: t1 :: t2 :: t' :: ts) := Have.turnX (fs := [t0, t1, t2]) t' ht hk hF h
theorem Have.drop_3 {w0 w : World} {t0 t1 t2 t3 : Thing} {ts : List Thing} (h : Have w0 w (t0 :: t1 :: t2 :: t3 :: ts)) : Have w0 w (t0 :: t1 :: t2 :: ts) := Have.dropX (fs := [t0, t1, t2]) h
theorem Have.ins_3 {w0 w : World} {t0 t1 t2 : Thing} {ts : List Thing} (h : Have w0 w (t0 :: t1 :: t2 :: ts)) (t : Thing) (ht : t.I w) (hn : ∀ k, ¬ t.F k) : Have w0 w (t0 :: t1 :: t2 :: t :: ts) := Have.insX (fs := [t0, t1, t2]) t ht hn h
theorem Have.i4 {w0 w : World} {t0 t1 t2 t3 t4 : Thing} {ts : List Thing} (h : Have w0 w (t0 :: t1 :: t2 :: t3 :: t4 :: ts)) : t4.I w := (h.one t4 (by simp)).1
theorem Have.f4 {w0 w : World} {t0 t1 t2 t3 t4 : Thing} {ts : List Thing} (h : Have w0 w (t0 :: t1 :: t2 :: t3 :: t4 :: ts)) : ∀ k, t4.F k → w0.heap.size ≤ k := (h.one t4 (by simp)).2
theorem Have.turn_4 {w0 w w' : World} {t0 t1 t2 t3 t4 : Thing} {ts : List Thing} (h : Have w0 w (t0 :: t1 :: t2 :: t3 :: t4 :: ts)) (t' : Thing) (ht : t'.I w') (hk : Kept t4.F w w') (hF : ∀ k, t'.F k → t4.F k ∨ w.heap.size ≤ k) : Have w0 w' (t0 :: t1 :: t2 :: t3 :: t' :: ts) := Have.turnX (fs := [t0, t1, t2, t3]) t' ht hk hF h
theorem Have.drop_4 {w0 w : World} {t0 t1 t2 t3 t4 : Thing} {ts : List Thing} (h : Have w0 w (t0 :: t1 :: t2 :: t3 :: t4 :: ts)) : Have w0 w (t0 :: t1 :: t2 :: t3 :: ts) := Have.dropX (fs := [t0, t1, t2, t3]) h
theorem Have.ins_4 {w0 w : World} {t0 t1 t2 t3 : Thing} {ts : List Thing} (h : Have w0 w (t0 :: t1 :: t2 :: t3 :: ts)) (t : Thing) (ht : t.I w) (hn : ∀ k, ¬ t.F k) : Have w0 w (t0 :: t1 :: t2 :: t3 :: t :: ts) := Have.insX (fs := [t0, t1, t2, t3]) t ht hn h
theorem Have.i5 {w0 w : World} {t0 t1 t2 t3 t4 t5 : Thing} {ts : List Thing} (h : Have w0 w (t0 :: t1 :: t2 :: t3 :: t4 :: t5 :: ts)) : t5.I w := (h.one t5 (by simp)).1
theorem Have.f5 {w0 w : World} {t0 t1 t2 t3 t4 t5 : Thing} {ts : List Thing} (h : Have w0 w (t0 :: t1 :: t2 :: t3 :: t4 :: t5 :: ts)) : ∀ k, t5.F k → w0.heap.size ≤ k := (h.one t5 (by simp)).2
theorem Have.turn_5 {w0 w w' : World} {t0 t1 t2 t3 t4 t5 : Thing} {ts : List Thing} (h : Have w0 w (t0 :: t1 :: t2 :: t3 :: t4 :: t5 :: ts)) (t' : Thing) (ht : t'.I w') (hk : Kept t5.F w w') (hF : ∀ k, t'.F k → t5.F k ∨ w.heap.size ≤ k) : Have w0 w' (t0 :: t1 :: t2 :: t3 :: t4 :: t' :: ts) := Have.turnX (fs := [t0, t1, t2, t3, t4]) t' ht hk hF h
theorem Have.drop_5 {w0 w : World} {t0 t1 t2 t3 t4 t5 : Thing} {ts : List Thing} (h : Have w0 w (t0 :: t1 :: t2 :: t3 :: t4 :: t5 :: ts)) : Have w0 w (t0 :: t1 :: t2 :: t3 :: t4 :: ts) := Have.dropX (fs := [t0, t1, t2, t3, t4]) h
theorem Have.ins_5 {w0 w : World} {t0 t1 t2 t3 t4 : Thing} {ts : List Thing} (h : Have w0 w (t0 :: t1 :: t2 :: t3 :: t4 :: ts)) (t : Thing) (ht : t.I w) (hn : ∀ k, ¬ t.F k) : Have w0 w (t0 :: t1 :: t2 :: t3 :: t4 :: t :: ts) := Have.insX (fs := [t0, t1, t2, t3, t4]) t ht hn h
theorem Have.i6 {w0 w : World} {t0 t1 t2 t3 t4 t5 t6 : Thing} {ts : List Thing} (h : Have w0 w (t0 :: t1 :: t2 :: t3 :: t4 :: t5 :: t6 :: ts)) : t6.I w := (h.one t6 (by simp)).1
theorem Have.f6 {w0 w : World} {t0 t1 t2 t3 t4 t5 t6 : Thing} {ts : List Thing} (h : Have w0 w (t0 :: t1 :: t2 :: t3 :: t4 :: t5 :: t6 :: ts)) : ∀ k, t6.F k → w0.heap.size ≤ k := (h.one t6 (by simp)).2
theorem Have.turn_6 {w0 w w' : World} {t0 t1 t2 t3 t4 t5 t6 : Thing} {ts : List Thing} (h : Have w0 w (t0 :: t1 :: t2 :: t3 :: t4 :: t5 :: t6 :: ts)) (t' : Thing) (ht : t'.I w') (hk : Kept t6.F w w') (hF : ∀ k, t'.F k → t6.F k ∨ w.heap.size ≤ k) : Have w0 w' (t0 :: t1 :: t2 :: t3 :: t4 :: t5 :: t' :: ts) := Have.turnX (fs := [t0, t1, t2, t3, t4, t5]) t' ht hk hF h
theorem Have.drop_6 {w0 w : World} {t0 t1 t2 t3 t4 t5 t6 : Thing} {ts : List Thing} (h : Have w0 w (t0 :: t1 :: t2 :: t3 :: t4 :: t5 :: t6 :: ts)) : Have w0 w (t0 :: t1 :: t2 :: t3 :: t4 :: t5 :: ts) := Have.dropX (fs := [t0, t1, t2, t3, t4, t5]) h
theorem Have.i7 {w0 w : World} {t0 t1 t2 t3 t4 t5 t6 t7 : Thing} {ts : List Thing} (h : Have w0 w (t0 :: t1 :: t2 :: t3 :: t4 :: t5 :: t6 :: t7 :: ts)) : t7.I w := (h.one t7 (by simp)).1
theorem Have.f7 {w0 w : World} {t0 t1 t2 t3 t4 t5 t6 t7 : Thing} {ts : List Thing} (h : Have w0 w (t0 :: t1 :: t2 :: t3 :: t4 :: t5 :: t6 :: t7 :: ts)) : ∀ k, t7.F k → w0.heap.size ≤ k := (h.one t7 (by simp)).2
theorem Have.turn_7 {w0 w w' : World} {t0 t1 t2 t3 t4 t5 t6 t7 : Thing} {ts : List Thing} (h : Have w0 w (t0 :: t1 :: t2 :: t3 :: t4 :: t5 :: t6 :: t7 :: ts)) (t' : Thing) (ht : t'.I w') (hk : Kept t7.F w w') (hF : ∀ k, t'.F k → t7.F k ∨ w.heap.size ≤ k) : Have w0 w' (t0 :: t1 :: t2 :: t3 :: t4 :: t5 :: t6 :: t' :: ts) := Have.turnX (fs := [t0, t1, t2, t3, t4, t5, t6]) t' ht hk hF h
theorem Have.drop_7 {w0 w : World} {t0 t1 t2 t3 t4 t5 t6 t7 : Thing} {ts : List Thing} (h : Have w0 w (t0 :: t1 :: t2 :: t3 :: t4 :: t5 :: t6 :: t7 :: ts)) : Have w0 w (t0 :: t1 :: t2 :: t3 :: t4 :: t5 :: t6 :: ts) := Have.dropX (fs := [t0, t1, t2, t3, t4, t5, t6]) h
theorem Have.i8 {w0 w : World} {t0 t1 t2 t3 t4 t5 t6 t7 t8 : Thing} {ts : List Thing} (h : Have w0 w (t0 :: t1 :: t2 :: t3 :: t4 :: t5 :: t6 :: t7 :: t8 :: ts)) : t8.I w := (h.one t8 (by simp)).1
theorem Have.f8 {w0 w : World} {t0 t1 t2 t3 t4 t5 t6 t7 t8 : Thing} {ts : List Thing} (h : Have w0 w (t0 :: t1 :: t2 :: t3 :: t4 :: t5 :: t6 :: t7 :: t8 :: ts)) : ∀ k, t8.F k → w0.heap.size ≤ k := (h.one t8 (by simp)).2
theorem Have.turn_8 {w0 w w' : World} {t0 t1 t2 t3 t4 t5 t6 t7 t8 : Thing} {ts : List Thing} (h : Have w0 w (t0 :: t1 :: t2 :: t3 :: t4 :: t5 :: t6 :: t7 :: t8 :: ts)) (t' : Thing) (ht : t'.I w') (hk : Kept t8.F w w') (hF : ∀ k, t'.F k → t8.F k ∨ w.heap.size ≤ k) : Have w0 w' (t0 :: t1 :: t2 :: t3 :: t4 :: t5 :: t6 :: t7 :: t' :: ts) := Have.turnX (fs := [t0, t1, t2, t3, t4, t5, t6, t7]) t' ht hk hF h
theorem Have.drop_8 {w0 w : World} {t0 t1 t2 t3 t4 t5 t6 t7 t8 : Thing} {ts : List Thing} (h : Have w0 w (t0 :: t1 :: t2 :: t3 :: t4 :: t5 :: t6 :: t7 :: t8 :: ts)) : Have w0 w (t0 :: t1 :: t2 :: t3 :: t4 :: t5 :: t6 :: t7 :: ts) := Have.dropX (fs := [t0, t1, t2, t3, t4, t5, t6, t7]) h
theorem Have.ap01 {w0 w : World} {t0 t1 : Thing} {ts : List Thing} (h : Have w0 w (t0 :: t1 :: ts)) : ∀ k, t0.F k → ¬ t1.F k := h.2.2.1 t1 (by simp)
theorem Have.ap02 {w0 w : World} {t0 t1 t2 : Thing} {ts : List Thing} (h : Have w0 w (t0 :: t1 :: t2 :: ts)) : ∀ k, t0.F k → ¬ t2.F k := h.2.2.1 t2 (by simp)
theorem Have.ap03 {w0 w : World} {t0 t1 t2 t3 : Thing} {ts : List Thing} (h : Have w0 w (t0 :: t1 :: t2 :: t3 :: ts)) : ∀ k, t0.F k → ¬ t3.F k := h.2.2.1 t3 (by simp)
theorem Have.ap04 {w0 w : World} {t0 t1 t2 t3 t4 : Thing} {ts : List Thing} (h : Have w0 w (t0 :: t1 :: t2 :: t3 :: t4 :: ts)) : ∀ k, t0.F k → ¬ t4.F k := h.2.2.1 t4 (by simp)
theorem Have.ap05 {w0 w : World} {t0 t1 t2 t3 t4 t5 : Thing} {ts : List Thing} (h : Have w0 w (t0 :: t1 :: t2 :: t3 :: t4 :: t5 :: ts)) : ∀ k, t0.F k → ¬ t5.F k := h.2.2.1 t5 (by simp)
theorem Have.ap06 {w0 w : World} {t0 t1 t2 t3 t4 t5 t6 : Thing} {ts : List Thing} (h : Have w0 w (t0 :: t1 :: t2 :: t3 :: t4 :: t5 :: t6 :: ts)) : ∀ k, t0.F k → ¬ t6.F k := h.2.2.1 t6 (by simp)
theorem Have.ap12 {w0 w : World} {t0 t1 t2 : Thing} {ts : List Thing} (h : Have w0 w (t0 :: t1 :: t2 :: ts)) : ∀ k, t1.F k → ¬ t2.F k := h.2.2.2.2.2.1 t2 (by simp)
theorem Have.ap13 {w0 w : World} {t0 t1 t2 t3 : Thing} {ts : List Thing} (h : Have w0 w (t0 :: t1 :: t2 :: t3 :: ts)) : ∀ k, t1.F k → ¬ t3.F k := h.2.2.2.2.2.1 t3 (by simp)
theorem Have.ap14 {w0 w : World} {t0 t1 t2 t3 t4 : Thing} {ts : List Thing} (h : Have w0 w (t0 :: t1 :: t2 :: t3 :: t4 :: ts)) : ∀ k, t1.F k → ¬ t4.F k := h.2.2.2.2.2.1 t4 (by simp)
theorem Have.ap15 {w0 w : World} {t0 t1 t2 t3 t4 t5 : Thing} {ts : List Thing} (h : Have w0 w (t0 :: t1 :: t2 :: t3 :: t4 :: t5 :: ts)) : ∀ k, t1.F k → ¬ t5.F k := h.2.2.2.2.2.1 t5 (by simp)
theorem Have.ap16 {w0 w : World} {t0 t1 t2 t3 t4 t5 t6 : Thing} {ts : List Thing} (h : Have w0 w (t0 :: t1 :: t2 :: t3 :: t4 :: t5 :: t6 :: ts)) : ∀ k, t1.F k → ¬ t6.F k := h.2.2.2.2.2.1 t6 (by simp)
theorem Have.ap23 {w0 w : World} {t0 t1 t2 t3 : Thing} {ts : List Thing} (h : Have w0 w (t0 :: t1 :: t2 :: t3 :: ts)) : ∀ k, t2.F k → ¬ t3.F k := h.2.2.2.2.2.2.2.2.1 t3 (by simp)
theorem Have.ap24 {w0 w : World} {t0 t1 t2 t3 t4 : Thing} {ts : List Thing} (h : Have w0 w (t0 :: t1 :: t2 :: t3 :: t4 :: ts)) : ∀ k, t2.F k → ¬ t4.F k := h.2.2.2.2.2.2.2.2.1 t4 (by simp)
theorem Have.ap25 {w0 w : World} {t0 t1 t2 t3 t4 t5 : Thing} {ts : List Thing} (h : Have w0 w (t0 :: t1 :: t2 :: t3 :: t4 :: t5 :: ts)) : ∀ k, t2.F k → ¬ t5.F k := h.2.2.2.2.2.2.2.2.1 t5 (by simp)
theorem Have.ap26 {w0 w : World} {t0 t1 t2 t3 t4 t5 t6 : Thing} {ts : List Thing} (h : Have w0 w (t0 :: t1 :: t2 :: t3 :: t4 :: t5 :: t6 :: ts)) : ∀ k, t2.F k → ¬ t6.F k := h.2.2.2.2.2.2.2.2.1 t6 (by simp)
theorem Have.ap34 {w0 w : World} {t0 t1 t2 t3 t4 : Thing} {ts : List Thing} (h : Have w0 w (t0 :: t1 :: t2 :: t3 :: t4 :: ts)) : ∀ k, t3.F k → ¬ t4.F k := h.2.2.2.2.2.2.2.2.2.2.2.1 t4 (by simp)
theorem Have.ap35 {w0 w : World} {t0 t1 t2 t3 t4 t5 : Thing} {ts : List Thing} (h : Have w0 w (t0 :: t1 :: t2 :: t3 :: t4 :: t5 :: ts)) : ∀ k, t3.F k → ¬ t5.F k := h.2.2.2.2.2.2.2.2.2.2.2.1 t5 (by simp)
theorem Have.ap36 {w0 w : World} {t0 t1 t2 t3 t4 t5 t6 : Thing} {ts : List Thing} (h : Have w0 w (t0 :: t1 :: t2 :: t3 :: t4 :: t5 :: t6 :: ts)) : ∀ k, t3.F k → ¬ t6.F k := h.2.2.2.2.2.2.2.2.2.2.2.1 t6 (by simp)
theorem Have.ap45 {w0 w : World} {t0 t1 t2 t3 t4 t5 : Thing} {ts : List Thing} (h : Have w0 w (t0 :: t1 :: t2 :: t3 :: t4 :: t5 :: ts)) : ∀ k, t4.F k → ¬ t5.F k := h.2.2.2.2.2.2.2.2.2.2.2.2.2.2.1 t5 (by simp)
theorem Have.ap46 {w0 w : World} {t0 t1 t2 t3 t4 t5 t6 : Thing} {ts : List Thing} (h : Have w0 w (t0 :: t1 :: t2 :: t3 :: t4 :: t5 :: t6 :: ts)) : ∀ k, t4.F k → ¬ t6.F k := h.2.2.2.2.2.2.2.2.2.2.2.2.2.2.1 t6 (by simp)
theorem Have.ap56 {w0 w : World} {t0 t1 t2 t3 t4 t5 t6 : Thing} {ts : List Thing} (h : Have w0 w (t0 :: t1 :: t2 :: t3 :: t4 :: t5 :: t6 :: ts)) : ∀ k, t5.F k → ¬ t6.F k := h.2.2.2.2.2.2.2.2.2.2.2.2.2.2.2.2.2.1 t6 (by simp)
end Go.Proofs.Ytdhljlhecoclfaa.Lw
