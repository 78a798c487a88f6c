/- A row of numbers in the midst of a block, which may be written; the number halfway; a row parted at a border. No stage's own but for layer 5's numbers in order. -/
import Derived.Test.YtdhljlhecoclfaaKept
import Derived.Test.YtdhljlhecoclfaaBits
import Derived.Test.YtdhljlhecoclfaaOrdMath
namespace Go.Proofs.Ytdhljlhecoclfaa.Ord
open Go Go.RowKit Lw
set_option linter.unusedVariables false
/-- The numbers zs lie in block g from i on, and may be written. -/
def Mid (w : World) (g i : Nat) (zs : List Int) : Prop := ∃ (cur : Array Value) (e : TypeId), w.heap[g]? = some (.cells cur e (0, 0)) ∧ ∀ j v, zs[j]? = some v → cur[i + j]? = some (.int .i64 v)
theorem add_at (g i j : Nat) : (⟨g, i, none⟩ : Addr).add j = ⟨g, i + j, none⟩ := by unfold Addr.add; split <;> simp_all
theorem Mid.cell {w : World} {g i : Nat} {zs : List Int} (h : Mid w g i zs) {j : Nat} {v : Int} (hv : zs[j]? = some v) : w.cell? ⟨g, i + j, none⟩ = some (.int .i64 v) := by
  obtain ⟨cur, e, h1, h2⟩ := h
  simp [World.cell?, h1, h2 j v hv]
theorem Mid.frozen {w : World} {g i : Nat} {zs : List Int} (h : Mid w g i zs) (o : Nat) : w.frozen? ⟨g, o, none⟩ = false := by
  obtain ⟨cur, e, h1, h2⟩ := h
  simp [World.frozen?, h1]
theorem Mid.lt {w : World} {g i : Nat} {zs : List Int} (h : Mid w g i zs) : g < w.heap.size := by
  obtain ⟨cur, e, h1, h2⟩ := h
  rcases Nat.lt_or_ge g w.heap.size with h3 | h3
  · exact h3
  · rw [Array.getElem?_eq_none h3] at h1; cases h1
theorem Mid.rd {w : World} {g i : Nat} {zs : List Int} (h : Mid w g i zs) : Rd .i64 w (some ⟨g, i, none⟩) zs := fun j v hv => ⟨_, rfl, by rw [add_at]; exact h.cell hv⟩
theorem Mid.keep {w w' : World} {g i : Nat} {zs : List Int} {F : Nat → Prop} (h : Mid w g i zs) (hk : Kept F w w') (hf : ¬ F g) : Mid w' g i zs := by
  obtain ⟨cur, e, h1, h2⟩ := h
  exact ⟨cur, e, hk.heap h1 hf, h2⟩
theorem Mid.up {w w' : World} {g i : Nat} {zs : List Int} (h : Mid w g i zs) (hb : Below w.heap.size w w') : Mid w' g i zs := h.keep (F := fun _ => False) (Kept.of_below hb) (fun h => h)
theorem Mid.take {w : World} {g i : Nat} {zs : List Int} (h : Mid w g i zs) (m : Nat) : Mid w g i (zs.take m) := by
  obtain ⟨cur, e, h1, h2⟩ := h
  refine ⟨cur, e, h1, fun j v hv => h2 j v ?_⟩
  rw [List.getElem?_take] at hv
  split at hv
  · exact hv
  · cases hv
theorem Mid.drop {w : World} {g i : Nat} {zs : List Int} (h : Mid w g i zs) (m : Nat) : Mid w g (i + m) (zs.drop m) := by
  obtain ⟨cur, e, h1, h2⟩ := h
  refine ⟨cur, e, h1, fun j v hv => ?_⟩
  rw [List.getElem?_drop] at hv
  rw [Nat.add_assoc]
  exact h2 _ v hv
theorem Mid.set {w : World} {g i : Nat} {zs : List Int} (h : Mid w g i zs) (j : Nat) (x : Int) : Mid (w.setCell ⟨g, i + j, none⟩ (.int .i64 x)) g i (zs.set j x) := by
  obtain ⟨cur, e, h1, h2⟩ := h
  refine ⟨cur.setIfInBounds (i + j) (.int .i64 x), e, by simp [World.setCell, Array.getElem?_modify, h1], fun q v hv => ?_⟩
  rw [List.getElem?_set] at hv
  split at hv
  · rename_i hq
    split at hv
    · rename_i hlt
      subst hq
      injection hv with hv
      subst hv
      have h3 := h2 j zs[j] (List.getElem?_eq_getElem hlt)
      have h4 : i + j < cur.size := by
        rcases Nat.lt_or_ge (i + j) cur.size with h5 | h5
        · exact h5
        · rw [Array.getElem?_eq_none h5] at h3; cases h3
      rw [Array.getElem?_setIfInBounds_self_of_lt h4]
    · cases hv
  · rename_i hq
    rw [Array.getElem?_setIfInBounds_ne (by omega)]
    exact h2 q v hv
theorem mid_own {w : World} {base : Nat} {e : TypeId} {A : Addr} {n cap : Nat} {zs : List Int} (h : w.ownsRow base e 1 (.slice (some A) n cap) n (zs.map (Value.int .i64))) : ∃ g, A = ⟨g, 0, none⟩ ∧ base ≤ g ∧ Mid w g 0 zs := by
  have h0 := h
  obtain ⟨h1, h2⟩ := h
  rcases h2 with ⟨h3, _⟩ | ⟨g, cap2, cur, h3, hbase, hh, hl, hm, hx, hy⟩
  · cases h3
  · injection h3 with h3 h4 h5
    injection h3 with h3
    subst h3
    refine ⟨g, rfl, hbase, cur, e, hh, fun j v hv => ?_⟩
    have h4 := h0.cells (g := g) rfl j (.int .i64 v) (by rw [List.getElem?_map, hv]; rfl)
    rw [add_at] at h4
    simpa [World.cell?, hh] using h4
/-! ### Halfway -/
theorem nat_half : ∀ x y : Nat, x + y = 2 * (x &&& y) + (x ^^^ y) := by
  intro x
  induction x using Nat.strongRecOn with
  | ind x ih =>
    intro y
    by_cases h : x = 0
    · subst h; simp
    · have h1 := ih (x / 2) (by omega) (y / 2)
      have a1 : (x &&& y) / 2 = x / 2 &&& y / 2 := by have e := Nat.shiftRight_and_distrib (a := x) (b := y) (i := 1); simpa [Nat.shiftRight_eq_div_pow] using e
      have a2 : (x ^^^ y) / 2 = x / 2 ^^^ y / 2 := by have e := Nat.shiftRight_xor_distrib (a := x) (b := y) (i := 1); simpa [Nat.shiftRight_eq_div_pow] using e
      have b1 : (x &&& y) % 2 = (x % 2) * (y % 2) := by
        have e1 := Nat.and_mod_two_pow (a := x) (b := y) (n := 1)
        simp only [Nat.pow_one] at e1
        rw [e1]
        rcases Nat.mod_two_eq_zero_or_one x with p | p <;> rcases Nat.mod_two_eq_zero_or_one y with q | q <;> rw [p, q] <;> decide
      have b2 : (x ^^^ y) % 2 = (x % 2 + y % 2) % 2 := by
        have e1 := Nat.xor_mod_two_pow (a := x) (b := y) (n := 1)
        simp only [Nat.pow_one] at e1
        rw [e1]
        rcases Nat.mod_two_eq_zero_or_one x with p | p <;> rcases Nat.mod_two_eq_zero_or_one y with q | q <;> rw [p, q] <;> decide
      rw [← a1, ← a2] at h1
      rcases Nat.mod_two_eq_zero_or_one x with p | p <;> rcases Nat.mod_two_eq_zero_or_one y with q | q <;> rw [p, q] at b1 b2 <;> omega
theorem xor_i64 (a b : Int) : bits .xor .i64 a b = (BitVec.ofInt 64 a ^^^ BitVec.ofInt 64 b).toInt := wrap_bv _
theorem bv_half (X Y : BitVec 64) : X.toInt + Y.toInt = 2 * (X &&& Y).toInt + (X ^^^ Y).toInt := by
  have h := nat_half X.toNat Y.toNat
  have p := BitVec.msb_and (x := X) (y := Y)
  have q := BitVec.msb_xor (x := X) (y := Y)
  rw [BitVec.toInt_eq_msb_cond, BitVec.toInt_eq_msb_cond, BitVec.toInt_eq_msb_cond, BitVec.toInt_eq_msb_cond, p, q, BitVec.toNat_and, BitVec.toNat_xor]
  have hx := X.isLt
  have hy := Y.isLt
  cases X.msb <;> cases Y.msb <;> simp <;> omega
theorem half_eq (a b : Int) (a0 : -9223372036854775808 ≤ a) (a1 : a ≤ 9223372036854775807) (b0 : -9223372036854775808 ≤ b) (b1 : b ≤ 9223372036854775807) : bits .and .i64 a b + bits .xor .i64 a b / 2 = (a + b) / 2 := by
  have h := bv_half (BitVec.ofInt 64 a) (BitVec.ofInt 64 b)
  rw [bv_of a a0 a1, bv_of b b0 b1] at h
  rw [and_i64, xor_i64]
  omega
theorem bv_bd (X : BitVec 64) : -9223372036854775808 ≤ X.toInt ∧ X.toInt ≤ 9223372036854775807 := by
  have h := X.isLt
  rw [BitVec.toInt_eq_toNat_cond]
  split <;> omega
theorem and_bd (a b : Int) : -9223372036854775808 ≤ bits .and .i64 a b ∧ bits .and .i64 a b ≤ 9223372036854775807 := by
  rw [and_i64]
  exact bv_bd _
theorem xor_bd (a b : Int) : -9223372036854775808 ≤ bits .xor .i64 a b ∧ bits .xor .i64 a b ≤ 9223372036854775807 := by
  rw [xor_i64]
  exact bv_bd _
/-! ### Parted -/
/-- ys is zs in another order; the first c are not beyond b, and those from there to k are. -/
structure Parts (zs : List Int) (b : Int) (ys : List Int) (c k : Nat) : Prop where
  perm : ys.Perm zs
  ck : c ≤ k
  kl : k ≤ ys.length
  lo : ∀ j v, ys[j]? = some v → j < c → v ≤ b
  hi : ∀ j v, ys[j]? = some v → c ≤ j → j < k → b < v
theorem Parts.start (zs : List Int) (b : Int) : Parts zs b zs 0 0 := ⟨.refl _, Nat.le_refl _, Nat.zero_le _, fun _ _ _ h => by omega, fun _ _ _ _ h => by omega⟩
theorem Parts.past {zs : List Int} {b : Int} {ys : List Int} {c k : Nat} (h : Parts zs b ys c k) {x : Int} (hx : ys[k]? = some x) (hb : b < x) : Parts zs b ys c (k + 1) := by
  have hl := (List.getElem?_eq_some_iff.1 hx).1
  refine ⟨h.perm, by have := h.ck; omega, hl, h.lo, fun j v hv h1 h2 => ?_⟩
  by_cases h3 : j = k
  · subst h3; rw [hx] at hv; injection hv with hv; omega
  · exact h.hi j v hv h1 (by omega)
theorem Parts.swap {zs : List Int} {b : Int} {ys : List Int} {c k : Nat} (h : Parts zs b ys c k) {x y : Int} (hx : ys[k]? = some x) (hy : ys[c]? = some y) (hb : x ≤ b) : Parts zs b ((ys.set k y).set c x) (c + 1) (k + 1) := by
  obtain ⟨hl, ex⟩ := List.getElem?_eq_some_iff.1 hx
  obtain ⟨hc, ey⟩ := List.getElem?_eq_some_iff.1 hy
  have hck := h.ck
  refine ⟨?_, by omega, by simp; omega, ?_, ?_⟩
  · have hp := @List.set_set_perm _ ys k c hl hc
    rw [ex, ey] at hp
    exact hp.trans h.perm
  · intro j v hv hj
    rw [List.getElem?_set] at hv
    split at hv
    · rw [if_pos (by simpa using hc)] at hv
      injection hv with hv; omega
    · rw [List.getElem?_set, if_neg (by omega)] at hv
      exact h.lo j v hv (by omega)
  · intro j v hv h1 h2
    rw [List.getElem?_set, if_neg (by omega), List.getElem?_set] at hv
    by_cases h3 : k = j
    · rw [if_pos h3, if_pos hl] at hv
      injection hv with hv
      subst hv
      exact h.hi c y hy (Nat.le_refl _) (by omega)
    · rw [if_neg h3] at hv
      exact h.hi j v hv (by omega) (by omega)
theorem Parts.upto {zs : List Int} {b : Int} {ys : List Int} {c : Nat} (h : Parts zs b ys c ys.length) : c ≤ zs.length ∧ (∀ v ∈ ys.take c, v ≤ b) ∧ (∀ v ∈ ys.drop c, b < v) := by
  refine ⟨by rw [← h.perm.length_eq]; exact h.ck, fun v hv => ?_, fun v hv => ?_⟩
  · obtain ⟨j, h1, h2, rfl⟩ := mem_take_get hv
    exact h.lo j _ (by rw [List.getElem?_eq_getElem h2]; rfl) h1
  · obtain ⟨j, h1, h2, rfl⟩ := mem_drop_get hv
    exact h.hi j _ (by rw [List.getElem?_eq_getElem h2]; rfl) h1 h2
theorem less_zero {l : List Int} {x : Int} (h : ∀ v ∈ l, x ≤ v) : less l x = 0 := by
  unfold less; rw [List.countP_eq_zero]; intro v hv; have := h v hv; simp; omega
theorem upto_zero {l : List Int} {x : Int} (h : ∀ v ∈ l, x < v) : Ord.upto l x = 0 := by
  unfold Ord.upto; rw [List.countP_eq_zero]; intro v hv; have := h v hv; simp; omega
theorem less_all {l : List Int} {x : Int} (h : ∀ v ∈ l, v < x) : less l x = l.length := by
  unfold less; rw [List.countP_eq_length]; intro v hv; have := h v hv; simp; omega
theorem upto_all {l : List Int} {x : Int} (h : ∀ v ∈ l, v ≤ x) : Ord.upto l x = l.length := by
  unfold Ord.upto; rw [List.countP_eq_length]; intro v hv; have := h v hv; simp; omega
theorem less_app (l m : List Int) (x : Int) : less (l ++ m) x = less l x + less m x := List.countP_append ..
theorem upto_app (l m : List Int) (x : Int) : Ord.upto (l ++ m) x = Ord.upto l x + Ord.upto m x := List.countP_append ..
/-- The k-th of all is the k-th of those within. -/
theorem kth_within {ys : List Int} {b : Int} {c k : Nat} (h1 : ∀ v ∈ ys.take c, v ≤ b) (h2 : ∀ v ∈ ys.drop c, b < v) (hc : c ≤ ys.length) (hk : k < c) : kth (ys.take c) k = kth ys k := by
  have hr := ranks_kth (ys.take c) k (by rw [List.length_take]; omega)
  obtain ⟨m1, m2, m3⟩ := hr
  have hx := h1 _ m1
  refine kth_eq ⟨List.mem_of_mem_take m1, ?_, ?_⟩
  · have e := less_app (ys.take c) (ys.drop c) (kth (ys.take c) k)
    rw [List.take_append_drop, less_zero (l := ys.drop c) (fun v hv => by have := h2 v hv; omega)] at e
    omega
  · have e := upto_app (ys.take c) (ys.drop c) (kth (ys.take c) k)
    rw [List.take_append_drop] at e
    omega
theorem kth_beyond {ys : List Int} {b : Int} {c k : Nat} (h1 : ∀ v ∈ ys.take c, v ≤ b) (h2 : ∀ v ∈ ys.drop c, b < v) (hc : c ≤ ys.length) (hk : c ≤ k) (hl : k < ys.length) : kth (ys.drop c) (k - c) = kth ys k := by
  have hr := ranks_kth (ys.drop c) (k - c) (by rw [List.length_drop]; omega)
  obtain ⟨m1, m2, m3⟩ := hr
  have hx := h2 _ m1
  have hlen : (ys.take c).length = c := by rw [List.length_take]; omega
  refine kth_eq ⟨List.mem_of_mem_drop m1, ?_, ?_⟩
  · have e := less_app (ys.take c) (ys.drop c) (kth (ys.drop c) (k - c))
    rw [List.take_append_drop, less_all (l := ys.take c) (fun v hv => by have := h1 v hv; omega)] at e
    omega
  · have e := upto_app (ys.take c) (ys.drop c) (kth (ys.drop c) (k - c))
    rw [List.take_append_drop, upto_all (l := ys.take c) (fun v hv => by have := h1 v hv; omega)] at e
    omega
/-- Of numbers that are all the same each is the k-th. -/
theorem kth_same {ys : List Int} {x : Int} {k : Nat} (h : ∀ v ∈ ys, v = x) (hk : k < ys.length) : kth ys k = x := h _ (kth_mem ys k hk)
end Go.Proofs.Ytdhljlhecoclfaa.Ord
