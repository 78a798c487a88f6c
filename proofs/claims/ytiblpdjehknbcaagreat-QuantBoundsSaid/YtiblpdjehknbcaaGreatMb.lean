/- Texts that the statements of this seat lean on, put together: OrdMid, OrdOne, OrdRef, RowPc, WidMath, WidBase, WidAdd, WidDig, WidEq. -/
import Derived.Test.YtiblpdjehknbcaaGreatMa
import Derived.Test.YtiblpdjehknbcaaGreatRows
import Derived.Deep.LoopGhost
import Derived.Deep.RegionHeld3
import Derived.Deep.QuietTactic
import Derived.BigQuiet
import Derived.Laws.Cover3
import Derived.WalkMore
import Derived.Deep.AppendLies
import Derived.WalkKit
import Derived.Lib.Hide
import Derived.Handy
import Derived.Shelf.Spec.BitsCarry
import Derived.Laws.BitsAllLaws
import Derived.ProofKit
import Derived.Deep.MidRow
/- A row of numbers in the midst of a block, which may be written; the number halfway; a row parted at a border. No stage's own but for layer 5's numbers in order. -/
namespace Go.Proofs.YtiblpdjehknbcaaGreat.Ord
open Go Go.RowKit Lw
set_option linter.unusedVariables false
/-- The numbers zs lie in block g from i on, and may be written. -/
def Mid (w : World) (g i : Nat) (zs : List Int) : Prop := ∃ (cur : Array Value) (e : TypeId), w.heap[g]? = some (.cells cur e (0, 0)) ∧ ∀ j v, zs[j]? = some v → cur[i + j]? = some (.int .i64 v)
theorem add_at (g i j : Nat) : (⟨g, i, none⟩ : Addr).add j = ⟨g, i + j, none⟩ := by unfold Addr.add; split <;> simp_all
theorem Mid.cell {w : World} {g i : Nat} {zs : List Int} (h : Mid w g i zs) {j : Nat} {v : Int} (hv : zs[j]? = some v) : w.cell? ⟨g, i + j, none⟩ = some (.int .i64 v) := by
  obtain ⟨cur, e, h1, h2⟩ := h
  simp [World.cell?, h1, h2 j v hv]
theorem Mid.frozen {w : World} {g i : Nat} {zs : List Int} (h : Mid w g i zs) (o : Nat) : w.frozen? ⟨g, o, none⟩ = false := by
  obtain ⟨cur, e, h1, h2⟩ := h
  simp [World.frozen?, h1]
theorem Mid.lt {w : World} {g i : Nat} {zs : List Int} (h : Mid w g i zs) : g < w.heap.size := by
  obtain ⟨cur, e, h1, h2⟩ := h
  rcases Nat.lt_or_ge g w.heap.size with h3 | h3
  · exact h3
  · rw [Array.getElem?_eq_none h3] at h1; cases h1
theorem Mid.rd {w : World} {g i : Nat} {zs : List Int} (h : Mid w g i zs) : Rd .i64 w (some ⟨g, i, none⟩) zs := fun j v hv => ⟨_, rfl, by rw [add_at]; exact h.cell hv⟩
theorem Mid.keep {w w' : World} {g i : Nat} {zs : List Int} {F : Nat → Prop} (h : Mid w g i zs) (hk : Kept F w w') (hf : ¬ F g) : Mid w' g i zs := by
  obtain ⟨cur, e, h1, h2⟩ := h
  exact ⟨cur, e, hk.heap h1 hf, h2⟩
theorem Mid.up {w w' : World} {g i : Nat} {zs : List Int} (h : Mid w g i zs) (hb : Below w.heap.size w w') : Mid w' g i zs := h.keep (F := fun _ => False) (Kept.of_below hb) (fun h => h)
theorem Mid.take {w : World} {g i : Nat} {zs : List Int} (h : Mid w g i zs) (m : Nat) : Mid w g i (zs.take m) := by
  obtain ⟨cur, e, h1, h2⟩ := h
  refine ⟨cur, e, h1, fun j v hv => h2 j v ?_⟩
  rw [List.getElem?_take] at hv
  split at hv
  · exact hv
  · cases hv
theorem Mid.drop {w : World} {g i : Nat} {zs : List Int} (h : Mid w g i zs) (m : Nat) : Mid w g (i + m) (zs.drop m) := by
  obtain ⟨cur, e, h1, h2⟩ := h
  refine ⟨cur, e, h1, fun j v hv => ?_⟩
  rw [List.getElem?_drop] at hv
  rw [Nat.add_assoc]
  exact h2 _ v hv
theorem Mid.set {w : World} {g i : Nat} {zs : List Int} (h : Mid w g i zs) (j : Nat) (x : Int) : Mid (w.setCell ⟨g, i + j, none⟩ (.int .i64 x)) g i (zs.set j x) := by
  obtain ⟨cur, e, h1, h2⟩ := h
  refine ⟨cur.setIfInBounds (i + j) (.int .i64 x), e, by simp [World.setCell, Array.getElem?_modify, h1], fun q v hv => ?_⟩
  rw [List.getElem?_set] at hv
  split at hv
  · rename_i hq
    split at hv
    · rename_i hlt
      subst hq
      injection hv with hv
      subst hv
      have h3 := h2 j zs[j] (List.getElem?_eq_getElem hlt)
      have h4 : i + j < cur.size := by
        rcases Nat.lt_or_ge (i + j) cur.size with h5 | h5
        · exact h5
        · rw [Array.getElem?_eq_none h5] at h3; cases h3
      rw [Array.getElem?_setIfInBounds_self_of_lt h4]
    · cases hv
  · rename_i hq
    rw [Array.getElem?_setIfInBounds_ne (by omega)]
    exact h2 q v hv
theorem mid_own {w : World} {base : Nat} {e : TypeId} {A : Addr} {n cap : Nat} {zs : List Int} (h : w.ownsRow base e 1 (.slice (some A) n cap) n (zs.map (Value.int .i64))) : ∃ g, A = ⟨g, 0, none⟩ ∧ base ≤ g ∧ Mid w g 0 zs := by
  have h0 := h
  obtain ⟨h1, h2⟩ := h
  rcases h2 with ⟨h3, _⟩ | ⟨g, cap2, cur, h3, hbase, hh, hl, hm, hx, hy⟩
  · cases h3
  · injection h3 with h3 h4 h5
    injection h3 with h3
    subst h3
    refine ⟨g, rfl, hbase, cur, e, hh, fun j v hv => ?_⟩
    have h4 := h0.cells (g := g) rfl j (.int .i64 v) (by rw [List.getElem?_map, hv]; rfl)
    rw [add_at] at h4
    simpa [World.cell?, hh] using h4
/-! ### Halfway -/
theorem nat_half : ∀ x y : Nat, x + y = 2 * (x &&& y) + (x ^^^ y) := by
  intro x
  induction x using Nat.strongRecOn with
  | ind x ih =>
    intro y
    by_cases h : x = 0
    · subst h; simp
    · have h1 := ih (x / 2) (by omega) (y / 2)
      have a1 : (x &&& y) / 2 = x / 2 &&& y / 2 := by have e := Nat.shiftRight_and_distrib (a := x) (b := y) (i := 1); simpa [Nat.shiftRight_eq_div_pow] using e
      have a2 : (x ^^^ y) / 2 = x / 2 ^^^ y / 2 := by have e := Nat.shiftRight_xor_distrib (a := x) (b := y) (i := 1); simpa [Nat.shiftRight_eq_div_pow] using e
      have b1 : (x &&& y) % 2 = (x % 2) * (y % 2) := by
        have e1 := Nat.and_mod_two_pow (a := x) (b := y) (n := 1)
        simp only [Nat.pow_one] at e1
        rw [e1]
        rcases Nat.mod_two_eq_zero_or_one x with p | p <;> rcases Nat.mod_two_eq_zero_or_one y with q | q <;> rw [p, q] <;> decide
      have b2 : (x ^^^ y) % 2 = (x % 2 + y % 2) % 2 := by
        have e1 := Nat.xor_mod_two_pow (a := x) (b := y) (n := 1)
        simp only [Nat.pow_one] at e1
        rw [e1]
        rcases Nat.mod_two_eq_zero_or_one x with p | p <;> rcases Nat.mod_two_eq_zero_or_one y with q | q <;> rw [p, q] <;> decide
      rw [← a1, ← a2] at h1
      rcases Nat.mod_two_eq_zero_or_one x with p | p <;> rcases Nat.mod_two_eq_zero_or_one y with q | q <;> rw [p, q] at b1 b2 <;> omega
theorem xor_i64 (a b : Int) : bits .xor .i64 a b = (BitVec.ofInt 64 a ^^^ BitVec.ofInt 64 b).toInt := wrap_bv _
theorem bv_half (X Y : BitVec 64) : X.toInt + Y.toInt = 2 * (X &&& Y).toInt + (X ^^^ Y).toInt := by
  have h := nat_half X.toNat Y.toNat
  have p := BitVec.msb_and (x := X) (y := Y)
  have q := BitVec.msb_xor (x := X) (y := Y)
  rw [BitVec.toInt_eq_msb_cond, BitVec.toInt_eq_msb_cond, BitVec.toInt_eq_msb_cond, BitVec.toInt_eq_msb_cond, p, q, BitVec.toNat_and, BitVec.toNat_xor]
  have hx := X.isLt
  have hy := Y.isLt
  cases X.msb <;> cases Y.msb <;> simp <;> omega
theorem half_eq (a b : Int) (a0 : -9223372036854775808 ≤ a) (a1 : a ≤ 9223372036854775807) (b0 : -9223372036854775808 ≤ b) (b1 : b ≤ 9223372036854775807) : bits .and .i64 a b + bits .xor .i64 a b / 2 = (a + b) / 2 := by
  have h := bv_half (BitVec.ofInt 64 a) (BitVec.ofInt 64 b)
  rw [bv_of a a0 a1, bv_of b b0 b1] at h
  rw [and_i64, xor_i64]
  omega
theorem bv_bd (X : BitVec 64) : -9223372036854775808 ≤ X.toInt ∧ X.toInt ≤ 9223372036854775807 := by
  have h := X.isLt
  rw [BitVec.toInt_eq_toNat_cond]
  split <;> omega
theorem and_bd (a b : Int) : -9223372036854775808 ≤ bits .and .i64 a b ∧ bits .and .i64 a b ≤ 9223372036854775807 := by
  rw [and_i64]
  exact bv_bd _
theorem xor_bd (a b : Int) : -9223372036854775808 ≤ bits .xor .i64 a b ∧ bits .xor .i64 a b ≤ 9223372036854775807 := by
  rw [xor_i64]
  exact bv_bd _
/-! ### Parted -/
/-- ys is zs in another order; the first c are not beyond b, and those from there to k are. -/
structure Parts (zs : List Int) (b : Int) (ys : List Int) (c k : Nat) : Prop where
  perm : ys.Perm zs
  ck : c ≤ k
  kl : k ≤ ys.length
  lo : ∀ j v, ys[j]? = some v → j < c → v ≤ b
  hi : ∀ j v, ys[j]? = some v → c ≤ j → j < k → b < v
theorem Parts.start (zs : List Int) (b : Int) : Parts zs b zs 0 0 := ⟨.refl _, Nat.le_refl _, Nat.zero_le _, fun _ _ _ h => by omega, fun _ _ _ _ h => by omega⟩
theorem Parts.past {zs : List Int} {b : Int} {ys : List Int} {c k : Nat} (h : Parts zs b ys c k) {x : Int} (hx : ys[k]? = some x) (hb : b < x) : Parts zs b ys c (k + 1) := by
  have hl := (List.getElem?_eq_some_iff.1 hx).1
  refine ⟨h.perm, by have := h.ck; omega, hl, h.lo, fun j v hv h1 h2 => ?_⟩
  by_cases h3 : j = k
  · subst h3; rw [hx] at hv; injection hv with hv; omega
  · exact h.hi j v hv h1 (by omega)
theorem Parts.swap {zs : List Int} {b : Int} {ys : List Int} {c k : Nat} (h : Parts zs b ys c k) {x y : Int} (hx : ys[k]? = some x) (hy : ys[c]? = some y) (hb : x ≤ b) : Parts zs b ((ys.set k y).set c x) (c + 1) (k + 1) := by
  obtain ⟨hl, ex⟩ := List.getElem?_eq_some_iff.1 hx
  obtain ⟨hc, ey⟩ := List.getElem?_eq_some_iff.1 hy
  have hck := h.ck
  refine ⟨?_, by omega, by simp; omega, ?_, ?_⟩
  · have hp := @List.set_set_perm _ ys k c hl hc
    rw [ex, ey] at hp
    exact hp.trans h.perm
  · intro j v hv hj
    rw [List.getElem?_set] at hv
    split at hv
    · rw [if_pos (by simpa using hc)] at hv
      injection hv with hv; omega
    · rw [List.getElem?_set, if_neg (by omega)] at hv
      exact h.lo j v hv (by omega)
  · intro j v hv h1 h2
    rw [List.getElem?_set, if_neg (by omega), List.getElem?_set] at hv
    by_cases h3 : k = j
    · rw [if_pos h3, if_pos hl] at hv
      injection hv with hv
      subst hv
      exact h.hi c y hy (Nat.le_refl _) (by omega)
    · rw [if_neg h3] at hv
      exact h.hi j v hv (by omega) (by omega)
theorem Parts.upto {zs : List Int} {b : Int} {ys : List Int} {c : Nat} (h : Parts zs b ys c ys.length) : c ≤ zs.length ∧ (∀ v ∈ ys.take c, v ≤ b) ∧ (∀ v ∈ ys.drop c, b < v) := by
  refine ⟨by rw [← h.perm.length_eq]; exact h.ck, fun v hv => ?_, fun v hv => ?_⟩
  · obtain ⟨j, h1, h2, rfl⟩ := mem_take_get hv
    exact h.lo j _ (by rw [List.getElem?_eq_getElem h2]; rfl) h1
  · obtain ⟨j, h1, h2, rfl⟩ := mem_drop_get hv
    exact h.hi j _ (by rw [List.getElem?_eq_getElem h2]; rfl) h1 h2
theorem less_zero {l : List Int} {x : Int} (h : ∀ v ∈ l, x ≤ v) : less l x = 0 := by
  unfold less; rw [List.countP_eq_zero]; intro v hv; have := h v hv; simp; omega
theorem upto_zero {l : List Int} {x : Int} (h : ∀ v ∈ l, x < v) : Ord.upto l x = 0 := by
  unfold Ord.upto; rw [List.countP_eq_zero]; intro v hv; have := h v hv; simp; omega
theorem less_all {l : List Int} {x : Int} (h : ∀ v ∈ l, v < x) : less l x = l.length := by
  unfold less; rw [List.countP_eq_length]; intro v hv; have := h v hv; simp; omega
theorem upto_all {l : List Int} {x : Int} (h : ∀ v ∈ l, v ≤ x) : Ord.upto l x = l.length := by
  unfold Ord.upto; rw [List.countP_eq_length]; intro v hv; have := h v hv; simp; omega
theorem less_app (l m : List Int) (x : Int) : less (l ++ m) x = less l x + less m x := List.countP_append ..
theorem upto_app (l m : List Int) (x : Int) : Ord.upto (l ++ m) x = Ord.upto l x + Ord.upto m x := List.countP_append ..
/-- The k-th of all is the k-th of those within. -/
theorem kth_within {ys : List Int} {b : Int} {c k : Nat} (h1 : ∀ v ∈ ys.take c, v ≤ b) (h2 : ∀ v ∈ ys.drop c, b < v) (hc : c ≤ ys.length) (hk : k < c) : kth (ys.take c) k = kth ys k := by
  have hr := ranks_kth (ys.take c) k (by rw [List.length_take]; omega)
  obtain ⟨m1, m2, m3⟩ := hr
  have hx := h1 _ m1
  refine kth_eq ⟨List.mem_of_mem_take m1, ?_, ?_⟩
  · have e := less_app (ys.take c) (ys.drop c) (kth (ys.take c) k)
    rw [List.take_append_drop, less_zero (l := ys.drop c) (fun v hv => by have := h2 v hv; omega)] at e
    omega
  · have e := upto_app (ys.take c) (ys.drop c) (kth (ys.take c) k)
    rw [List.take_append_drop] at e
    omega
theorem kth_beyond {ys : List Int} {b : Int} {c k : Nat} (h1 : ∀ v ∈ ys.take c, v ≤ b) (h2 : ∀ v ∈ ys.drop c, b < v) (hc : c ≤ ys.length) (hk : c ≤ k) (hl : k < ys.length) : kth (ys.drop c) (k - c) = kth ys k := by
  have hr := ranks_kth (ys.drop c) (k - c) (by rw [List.length_drop]; omega)
  obtain ⟨m1, m2, m3⟩ := hr
  have hx := h2 _ m1
  have hlen : (ys.take c).length = c := by rw [List.length_take]; omega
  refine kth_eq ⟨List.mem_of_mem_drop m1, ?_, ?_⟩
  · have e := less_app (ys.take c) (ys.drop c) (kth (ys.drop c) (k - c))
    rw [List.take_append_drop, less_all (l := ys.take c) (fun v hv => by have := h1 v hv; omega)] at e
    omega
  · have e := upto_app (ys.take c) (ys.drop c) (kth (ys.drop c) (k - c))
    rw [List.take_append_drop, upto_all (l := ys.take c) (fun v hv => by have := h1 v hv; omega)] at e
    omega
/-- Of numbers that are all the same each is the k-th. -/
theorem kth_same {ys : List Int} {x : Int} {k : Nat} (h : ∀ v ∈ ys, v = x) (hk : k < ys.length) : kth ys k = x := h _ (kth_mem ys k hk)
end Go.Proofs.YtiblpdjehknbcaaGreat.Ord
/- The walks of package order: Kth looks for the number at a place by parting numbers halfway between their ends; Min and Median ask it. -/
namespace Go.Proofs.YtiblpdjehknbcaaGreat.Ord
open Go Go.RowKit Lw
set_option linter.unusedVariables false
set_option linter.unusedSimpArgs false
theorem ret_ok {a b : Int} {p q : Bool} (h : a = b) (g : p = q) : Ending.returned (.tuple #[.int .i64 a, .bool p]) = .returned (.tuple #[.int .i64 b, .bool q]) := by rw [h, g]
theorem oi64_info : (Tryz.prog.info? 2).map (fun i => (i.zero, i.size, i.bytes)) = some (some (.int .i64 0), 1, 8) := by kernel_rfl
theorem oi64s_u : Tryz.prog.underlying 48 = some (.slice 2) := by kernel_rfl
theorem halfway_any (a b : Int) (w : World) (a0 : -9223372036854775808 ≤ a) (a1 : a ≤ 9223372036854775807) (b0 : -9223372036854775808 ≤ b) (b1 : b ≤ 9223372036854775807) :
    Calls Tryz.prog 172 #[.int .i64 a, .int .i64 b] w fun e w' => e = .returned (.int .i64 ((a + b) / 2)) ∧ w' = w := by
  have e := half_eq a b a0 a1 b0 b1
  have e2 := and_bd a b
  have e3 := xor_bd a b
  go_enter Tryz.func172, Tryz.ntmps172
  go_wp2
  go_ret
  exact ⟨rfl, rfl⟩
/-- What ends tells. -/
def Ends (zs : List Int) (lo hi : Int) : Prop := lo ∈ zs ∧ hi ∈ zs ∧ ∀ v ∈ zs, lo ≤ v ∧ v ≤ hi
set_option maxRecDepth 100000 in
theorem ends_any (ad : Addr) (n cap : Nat) (zs : List Int) (w : World) (hn : n ≤ cap) (hcap : cap ≤ maxLen) (hr : Rd .i64 w (some ad) zs) (hl : zs.length = n) (h1 : 0 < n) (hs : n ≤ 1000) (hz : In64 zs) :
    Calls Tryz.prog 173 #[.slice (some ad) n cap] w fun e w' => ∃ lo hi, e = .returned (.tuple #[.int .i64 lo, .int .i64 hi]) ∧ Ends zs lo hi ∧ Below w.heap.size w w' := by
  have HR := Lib.hid hr
  have HZ := Lib.hid hz
  have HL := Lib.hid hl
  unfold maxLen at hcap
  have h1' : 0 < zs.length := by omega
  have c0 := HR.out.at (j := 0) (v := zs[0]) (List.getElem?_eq_getElem h1')
  have ca0 : ad.add 0 = ad := by unfold Addr.add; simp
  obtain ⟨f, hf⟩ : ∃ f, f = zs[0] := ⟨_, rfl⟩
  rw [← hf] at c0
  have hfm : f ∈ zs := by rw [hf]; exact List.getElem_mem h1'
  have fb := HZ.out f hfm
  have HF := Lib.hid hfm
  have h0n : (0 : Int) < n := by omega
  rw [ca0] at c0
  clear hf hfm hl hr hz h1'
  go_enter Tryz.func173, Tryz.ntmps173
  go_wp2
  go_quiet (fail)
  go_wp2
  go_loopw [2, 3, 14] (fun a b i wr => ∃ (k d : Nat) (x y : Int), k ≤ n ∧ i = .int .i64 k ∧ a = .int .i64 x ∧ b = .int .i64 y ∧ x ∈ zs ∧ y ∈ zs ∧ (∀ v ∈ zs.take k, x ≤ v ∧ v ≤ y) ∧ wr = w.drewN d) (fun _ _ i _ => n - (intOf i).toNat)
  case atStart => exact ⟨0, _, f, f, Nat.zero_le _, rfl, rfl, rfl, HF.out, HF.out, fun v hv => by simp at hv, rfl⟩
  case round =>
    obtain ⟨k, d, x, y, hk, rfl, rfl, rfl, hx, hy, hall, rfl⟩ := hrel
    have xb := HZ.out x hx
    have yb := HZ.out y hy
    have HX := Lib.hid hx
    have HY := Lib.hid hy
    have HA := Lib.hid hall
    clear hx hy hall
    by_cases hlt : k < n
    · have hkl : k < zs.length := by have := HL.out; omega
      obtain ⟨v, hv⟩ : ∃ v, zs[k]? = some v := ⟨_, List.getElem?_eq_getElem hkl⟩
      have hc := HR.out.at hv
      have hvm := List.mem_of_getElem? hv
      have vb := HZ.out v hvm
      have HV := Lib.hid hvm
      have HN := Lib.hid (take_next zs k v hv)
      clear hv hvm
      by_cases h2 : v < x
      · by_cases h3 : y < v
        · go_wp2
          go_roundw
          case rel => exact ⟨k + 1, _, v, v, by omega, by go_num, rfl, rfl, HV.out, HV.out, fun u hu => by rw [HN.out] at hu; rcases List.mem_append.1 hu with h4 | h4; (have := HA.out u h4; omega); (simp at h4; omega), rfl⟩
          case measure => simp [intOf]; omega
        · go_wp2
          go_roundw
          case rel => exact ⟨k + 1, _, v, y, by omega, by go_num, rfl, rfl, HV.out, HY.out, fun u hu => by rw [HN.out] at hu; rcases List.mem_append.1 hu with h4 | h4; (have := HA.out u h4; omega); (simp at h4; omega), rfl⟩
          case measure => simp [intOf]; omega
      · by_cases h3 : y < v
        · go_wp2
          go_roundw
          case rel => exact ⟨k + 1, _, x, v, by omega, by go_num, rfl, rfl, HX.out, HV.out, fun u hu => by rw [HN.out] at hu; rcases List.mem_append.1 hu with h4 | h4; (have := HA.out u h4; omega); (simp at h4; omega), rfl⟩
          case measure => simp [intOf]; omega
        · go_wp2
          go_roundw
          case rel => exact ⟨k + 1, _, x, y, by omega, by go_num, rfl, rfl, HX.out, HY.out, fun u hu => by rw [HN.out] at hu; rcases List.mem_append.1 hu with h4 | h4; (have := HA.out u h4; omega); (simp at h4; omega), rfl⟩
          case measure => simp [intOf]; omega
    · have e : k = n := by omega
      subst e
      have E : Hid (Ends zs x y) := Lib.hid ⟨HX.out, HY.out, fun v hv => HA.out v (by rw [List.take_of_length_le (by have := HL.out; omega)]; exact hv)⟩
      go_wp2
      go_ret2
      exact ⟨x, y, rfl, E.out, below_drewN (Below.refl _ _) _⟩
theorem addr_letter (g i : Nat) : ∃ ad : Addr, (⟨g, i, none⟩ : Addr) = ad := ⟨_, rfl⟩
set_option maxRecDepth 100000 in
theorem part_any (g i n cap : Nat) (zs : List Int) (b : Int) (w : World) (hn : n ≤ cap) (hcap : cap ≤ maxLen) (hm : Mid w g i zs) (hl : zs.length = n) (h1 : 0 < n) (hs : n ≤ 1000) (hz : In64 zs) (b0 : -9223372036854775808 ≤ b) (b1 : b ≤ 9223372036854775807) :
    Calls Tryz.prog 171 #[.slice (some ⟨g, i, none⟩) n cap, .int .i64 b] w fun e w' => ∃ (c : Nat) (ys : List Int) (B : Option Addr), e = .returned (.tuple #[.slice (some ⟨g, i, none⟩) c cap, .slice B (n - c) (cap - c)]) ∧ Parts zs b ys c n ∧ (c < n → B = some ⟨g, i + c, none⟩) ∧ Mid w' g i ys ∧ Kept (fun q => q = g) w w' := by
  have HM := Lib.hid hm
  have HZ := Lib.hid hz
  have HL := Lib.hid hl
  unfold maxLen at hcap
  clear hm hz hl
  obtain ⟨ad, had⟩ := addr_letter g i
  have HAD := Lib.hid had
  rw [had]
  clear had
  go_enter Tryz.func171, Tryz.ntmps171
  go_wp2
  go_loopw [6, 11] (fun ct ix wr => ∃ (c k : Nat) (ys : List Int), k ≤ n ∧ ct = .int .i64 c ∧ ix = .int .i64 k ∧ Parts zs b ys c k ∧ Mid wr g i ys ∧ Kept (fun q => q = g) w wr) (fun _ ix _ => n - (intOf ix).toNat)
  case atStart => exact ⟨0, 0, zs, Nat.zero_le _, rfl, rfl, Parts.start _ _, HM.out, Kept.refl _ _⟩
  case round =>
    obtain ⟨c, k, ys, hk, rfl, rfl, hp, hmid, hkept⟩ := hrel
    have hck := hp.ck
    have hyl : ys.length = n := by rw [hp.perm.length_eq]; exact HL.out
    have HP := Lib.hid hp
    have HMI := Lib.hid hmid
    have HK := Lib.hid hkept
    have HYL := Lib.hid hyl
    have HYZ : Hid (In64 ys) := Lib.hid (fun v hv => HZ.out v (hp.perm.mem_iff.1 hv))
    clear hp hmid hkept hyl
    by_cases hlt : k < n
    · have hkl : k < ys.length := by have := HYL.out; omega
      have hcl : c < ys.length := by have := HYL.out; omega
      obtain ⟨x, hx⟩ : ∃ x, ys[k]? = some x := ⟨_, List.getElem?_eq_getElem hkl⟩
      obtain ⟨y, hy⟩ : ∃ y, ys[c]? = some y := ⟨_, List.getElem?_eq_getElem hcl⟩
      have xb := HYZ.out.at hx
      have yb := HYZ.out.at hy
      have cx := HMI.out.rd.at hx
      have cy := HMI.out.rd.at hy
      have fx := HMI.out.frozen (i + k)
      have fy := HMI.out.frozen (i + c)
      have m1 := HMI.out.set k y
      have m2 := m1.set c x
      have cy1 := m1.rd.at (j := c) (v := (if k = c then y else y)) (by rw [List.getElem?_set]; by_cases e : k = c <;> simp [e, hy]; omega)
      have fy1 := m1.frozen (i + c)
      have k1 : Kept (fun q => q = g) w ((wr.setCell ⟨g, i + k, none⟩ (.int .i64 y)).setCell ⟨g, i + c, none⟩ (.int .i64 x)) := (HK.out.set (.inl rfl) _ _).set (.inl rfl) _ _
      simp only [← add_at, HAD.out] at cx cy fx fy m1 m2 cy1 fy1 k1
      have M2 := Lib.hid m2
      have K1 := Lib.hid k1
      have PS := fun h => HP.out.swap hx hy h
      have PP := fun h => HP.out.past hx h
      have HPS := Lib.hid PS
      have HPP := Lib.hid PP
      simp only [ite_self] at cy1
      clear m1 m2 k1 PS PP hx hy
      by_cases h2 : x ≤ b
      · go_wp2
        go_roundw
        case rel => exact ⟨c + 1, k + 1, _, by omega, by go_num, by go_num, HPS.out h2, M2.out, K1.out⟩
        case measure => simp [intOf]; omega
      · go_wp2
        go_roundw
        case rel => exact ⟨c, k + 1, ys, by omega, rfl, by go_num, HPP.out (by omega), HMI.out, HK.out⟩
        case measure => simp [intOf]; omega
    · have e : k = n := by omega
      subst e
      have hcap0 : ¬ cap = 0 := by omega
      have ca0 : ad.add 0 = ad := by unfold Addr.add; simp
      have AC : Hid (some (ad.add c) = some (⟨g, i + c, none⟩ : Addr)) := Lib.hid (by rw [← HAD.out, add_at])
      by_cases hcc : cap = c
      · have e2 : k = c := by omega
        subst e2
        subst hcc
        go_wp2
        go_quiet (fail)
        go_wp2
        go_ret2
        exact ⟨cap, ys, some ad, by rw [Nat.sub_self]; rfl, HP.out, fun h => by omega, HMI.out.keep (Kept.of_below (F := fun _ => False) (below_drewN (Below.refl _ _) _)) (fun h => h), HK.out.drewN _⟩
      · go_wp2
        go_quiet (fail)
        go_wp2
        go_ret2
        exact ⟨c, ys, _, rfl, HP.out, fun h => AC.out, HMI.out.keep (Kept.of_below (F := fun _ => False) (below_drewN (Below.refl _ _) _)) (fun h => h), HK.out.drewN _⟩
/-- One number, the k-th of all: what Kth holds on to. -/
def Rest (w wr : World) (R : Int) (k : Int) (g i n cap : Nat) (zs : List Int) (K : Nat) : Prop :=
  k = K ∧ K < n ∧ zs.length = n ∧ n ≤ cap ∧ cap ≤ maxLen ∧ n ≤ 1000 ∧ In64 zs ∧ kth zs K = R ∧ Mid wr g i zs ∧ w.heap.size ≤ g ∧ Below w.heap.size w wr
theorem in64_perm {ys zs : List Int} (h : ys.Perm zs) (hz : In64 zs) : In64 ys := fun v hv => hz v (h.mem_iff.1 hv)
theorem kept_below {w wr w' : World} {g : Nat} (h : Kept (fun q => q = g) wr w') (hb : Below w.heap.size w wr) (hg : w.heap.size ≤ g) : Below w.heap.size w w' :=
  h.low hb hb.size (fun q hq => by subst hq; exact hg)
/-- All are within: all are the same. -/
theorem rest_same {zs ys : List Int} {lo hi : Int} {n K : Nat} (he : Ends zs lo hi) (hp : Parts zs ((lo + hi) / 2) ys n n) (hl : zs.length = n) (hK : K < n) : ∀ v, ys[0]? = some v → v = kth zs K := by
  intro v hv
  have hyl : ys.length = n := by rw [hp.perm.length_eq]; exact hl
  have h1 : hi ∈ ys := hp.perm.mem_iff.2 he.2.1
  obtain ⟨j, hj, e⟩ := List.mem_iff_getElem.1 h1
  have h2 := hp.lo j hi (by rw [List.getElem?_eq_getElem hj, e]) (by omega)
  have h3 := (he.2.2 hi he.2.1).1
  have h4 := he.2.2 v (hp.perm.mem_iff.1 (List.mem_of_getElem? hv))
  have h5 := he.2.2 _ (kth_mem zs K (by omega))
  omega
theorem rest_within {w wr w' : World} {R k lo hi : Int} {g i n cap K c : Nat} {zs ys : List Int} (h : Rest w wr R k g i n cap zs K) (hp : Parts zs ((lo + hi) / 2) ys c n) (hc : K < c) (hm : Mid w' g i ys) (hk : Kept (fun q => q = g) wr w') :
    Rest w w' R k g i c cap (ys.take c) K := by
  obtain ⟨h1, h2, h3, h4, h5, h6, h7, h8, h9, h10, h11⟩ := h
  have hyl : ys.length = n := by rw [hp.perm.length_eq]; exact h3
  rw [← hyl] at hp
  obtain ⟨p1, p2, p3⟩ := hp.upto
  have hck := hp.ck
  refine ⟨h1, hc, by rw [List.length_take]; omega, by omega, h5, by omega, in64_take (in64_perm hp.perm h7) c, ?_, hm.take c, h10, kept_below hk h11 h10⟩
  rw [kth_within p2 p3 (by omega) hc, ← h8]
  exact kth_perm hp.perm K
theorem rest_beyond {w wr w' : World} {R k lo hi : Int} {g i n cap K c : Nat} {zs ys : List Int} (h : Rest w wr R k g i n cap zs K) (hp : Parts zs ((lo + hi) / 2) ys c n) (hc : c ≤ K) (hm : Mid w' g i ys) (hk : Kept (fun q => q = g) wr w') :
    Rest w w' R (k - c) g (i + c) (n - c) (cap - c) (ys.drop c) (K - c) := by
  obtain ⟨h1, h2, h3, h4, h5, h6, h7, h8, h9, h10, h11⟩ := h
  have hyl : ys.length = n := by rw [hp.perm.length_eq]; exact h3
  rw [← hyl] at hp
  obtain ⟨p1, p2, p3⟩ := hp.upto
  have hck := hp.ck
  refine ⟨by omega, by omega, by rw [List.length_drop]; omega, by omega, by unfold maxLen at h5 ⊢; omega, by omega, in64_drop (in64_perm hp.perm h7) c, ?_, hm.drop c, h10, kept_below hk h11 h10⟩
  rw [kth_beyond p2 p3 (by omega) hc (by omega), ← h8]
  exact kth_perm hp.perm K
/-- Some are within. -/
theorem rest_some {zs ys : List Int} {lo hi : Int} {c n : Nat} (he : Ends zs lo hi) (hp : Parts zs ((lo + hi) / 2) ys c n) (hl : zs.length = n) : 0 < c := by
  rcases Nat.eq_zero_or_pos c with rfl | h
  · have hyl : ys.length = n := by rw [hp.perm.length_eq]; exact hl
    have h1 : lo ∈ ys := hp.perm.mem_iff.2 he.1
    obtain ⟨j, hj, e⟩ := List.mem_iff_getElem.1 h1
    have h2 := hp.hi j lo (by rw [List.getElem?_eq_getElem hj, e]) (by omega) (by omega)
    have h3 := (he.2.2 hi he.2.1).1
    omega
  · exact h
theorem eql_nil {P : Program} (w : World) (t e : TypeId) (a : Option Addr) (l c : Nat) (h : P.underlying t = some (.slice e)) : (binOp .eql t (.slice a l c) (.slice none 0 0)).run P w = .ok (.bool a.isNone) w := by
  simp only [binOp]
  simp [run_equal_slice_nil w t e a l c h]
theorem clone_any (A : Option Addr) (n cap : Nat) (zs : List Int) (w : World) (hA : A = none → n = 0 ∧ cap = 0) (hn : n ≤ cap) (hcap : cap ≤ maxLen) (hr : Rd .i64 w A zs) (hl : zs.length = n) (h1 : 0 < n) (hs : n ≤ 1000) :
    Calls Tryz.prog 170 #[.slice A n cap] w fun e w' => ∃ (g cap2 : Nat), e = .returned (.slice (some ⟨g, 0, none⟩) n cap2) ∧ Mid w' g 0 zs ∧ w.heap.size ≤ g ∧ n ≤ cap2 ∧ cap2 ≤ maxLen ∧ Below w.heap.size w w' := by
  obtain ⟨i0, hi, hz0, hz1, hz2⟩ := info_parts oi64_info
  obtain ⟨ad, rfl⟩ := hr.some_of (by omega)
  have HR := Lib.hid hr
  have HL := Lib.hid hl
  unfold maxLen at hcap
  have hq : ∀ w', (binOp .eql 48 (.slice (some ad) n cap) (.slice none 0 0)).run Tryz.prog w' = .ok (.bool false) w' := fun w' => eql_nil w' _ _ (some ad) n cap oi64s_u
  clear hr hA hl
  go_enter Tryz.func170, Tryz.ntmps170
  go_wp2_with (at_builtin; refine app_any .i64 rfl _ _ 48 rfl w.heap.size 2 i0 8 oi64s_u hi hz0 hz1 hz2 (.slice (some ⟨w.heap.size, 0, none⟩) 0 0) 0 [] rfl (own_empty w _ _ _ (Nat.le_refl _)) (fun h => by cases h) (some ad) n cap zs rfl (by simp) HL.out (HR.out.up (Lw.below_alloc (Below.refl _ _) _)) (by unfold maxLen; omega) (by omega) (by simp) ?_; intro A6 cap6 w6 own6 grow6 rd6 c6 d6; have hb6 : Below w.heap.size w w6 := app_below grow6 (Nat.le_refl _); (simp only [Nat.zero_add, List.nil_append] at own6 c6); (simp only [Nat.zero_add]); clear grow6 rd6)
  go_ret
  obtain ⟨g, rfl, hg, hm⟩ := mid_own own6
  exact ⟨g, cap6, rfl, hm, hg, c6, d6, hb6⟩
def slen : Value → Nat
  | .slice _ n _ => n
  | _ => 0
theorem in64_ends {zs : List Int} {lo hi : Int} (hz : In64 zs) (he : Ends zs lo hi) : -9223372036854775808 ≤ lo ∧ lo ≤ 9223372036854775807 ∧ -9223372036854775808 ≤ hi ∧ hi ≤ 9223372036854775807 :=
  ⟨(hz _ he.1).1, (hz _ he.1).2, (hz _ he.2.1).1, (hz _ he.2.1).2⟩
set_option maxRecDepth 100000 in
set_option maxHeartbeats 4000000 in
theorem kth_any (A : Option Addr) (n cap : Nat) (zs : List Int) (k : Int) (w : World) (hA : A = none → n = 0 ∧ cap = 0) (hn : n ≤ cap) (hcap : cap ≤ maxLen) (hr : Rd .i64 w A zs) (hl : zs.length = n) (hs : n ≤ 1000) (hz : In64 zs) (k0 : -9223372036854775808 ≤ k) (k1 : k ≤ 9223372036854775807) :
    Calls Tryz.prog 169 #[.slice A n cap, .int .i64 k] w fun e w' => e = .returned (.tuple #[.int .i64 (kv zs (k)), .bool (kb zs (k))]) ∧ Below w.heap.size w w' := by
  have HR := Lib.hid hr
  have HZ := Lib.hid hz
  have HL := Lib.hid hl
  have HA := Lib.hid hA
  unfold maxLen at hcap
  by_cases h0 : 0 ≤ k ∧ k < n
  · obtain ⟨g0, g1⟩ := h0
    obtain ⟨K, rfl⟩ : ∃ K : Nat, k = K := ⟨k.toNat, by omega⟩
    have e := kv_yes (l := zs) (k := (K : Int)) g0 (by omega)
    have e1 : kv zs K = kth zs K := e.1
    have E1 := Lib.hid e1
    have E2 := Lib.hid e.2
    have hKn : K < n := by omega
    have h1 : 0 < n := by omega
    clear e e1 hr hz hl hA g0 k0
    go_enter Tryz.func169, Tryz.ntmps169
    go_wp2
    go_step3
    go_wp2_with (go_at_call 170; (with_reducible refine (clone_any A n cap zs _ HA.out hn (by unfold maxLen; omega) HR.out HL.out h1 hs).mono ?_); rintro e w2 ⟨g, cap2, rfl, hm2, hg2, hc2, hd2, hb2⟩)
    have HR2 : Hid (Rest w w2 (kth zs K) K g 0 n cap2 zs K) := Lib.hid ⟨rfl, hKn, HL.out, hc2, hd2, hs, HZ.out, rfl, hm2, hg2, hb2⟩
    clear hm2 hb2 hc2 hd2
    go_step3
    go_wp2
    go_loopw [1, 6] (fun kk r wr => ∃ (i m cp : Nat) (ys : List Int) (J : Nat), kk = .int .i64 J ∧ r = .slice (some ⟨g, i, none⟩) m cp ∧ Rest w wr (kth zs K) J g i m cp ys J) (fun _ r _ => slen r)
    case atStart => exact ⟨0, n, cap2, zs, K, rfl, rfl, HR2.out⟩
    case round =>
      obtain ⟨i, m, cp, ys, J, rfl, rfl, hrest⟩ := hrel
      have HRS := Lib.hid hrest
      obtain ⟨x1, x2, x3, x4, x5, x6, x7, x8, x9, x10, x11⟩ := hrest
      have HX3 := Lib.hid x3
      have HX7 := Lib.hid x7
      have HX9 := Lib.hid x9
      clear x1 x3 x7 x8 x9 x11
      unfold maxLen at x5
      have hm0 : 0 < m := by omega
      go_wp2_with (first
        | (go_at_call 173; (with_reducible refine (ends_any ⟨g, i, none⟩ m cp ys _ x4 (by unfold maxLen; omega) HX9.out.rd HX3.out hm0 x6 HX7.out).mono ?_); rintro e w3 ⟨lo, hi, rfl, he, hb3⟩; have HE := Lib.hid he; have bd := in64_ends HX7.out he; obtain ⟨d1, d2, d3, d4⟩ := bd; clear he)
        | (go_at_call 172; (with_reducible refine (halfway_any lo hi _ d1 d2 d3 d4).mono ?_); rintro e w4 ⟨rfl, rfl⟩)
        | (go_at_call 171; (with_reducible refine (part_any g i m cp ys ((lo + hi) / 2) _ x4 (by unfold maxLen; omega) (HX9.out.up hb3) HX3.out hm0 x6 HX7.out (by omega) (by omega)).mono ?_); rintro e w5 ⟨c, us, B, rfl, hp5, hB5, hm5, hk5⟩; have hul : us.length = m := (by rw [hp5.perm.length_eq]; exact HX3.out); have hck := hp5.ck; obtain ⟨u0, hu0⟩ : ∃ u, us[0]? = some u := ⟨_, List.getElem?_eq_getElem (by omega)⟩; have hc0 : w5.cell? ⟨g, i, none⟩ = some (.int .i64 u0) := hm5.cell hu0; have HP5 := Lib.hid hp5; have HM5 := Lib.hid hm5; have HK5 := Lib.hid (((Kept.of_below (F := fun q => q = g) hb3)).trans hk5 (fun _ _ h => h)); have HB5 := Lib.hid hB5; have HU0 := Lib.hid hu0; clear hp5 hm5 hk5 hB5 hu0 hb3))
      · rename_i hcm
        have hcm2 : c = m := by
          have := of_decide_eq_true hcm
          omega
        subst hcm2
        have hs5 := rest_same HE.out HP5.out HX3.out x2 u0 HU0.out
        have hb5 := kept_below HK5.out HRS.out.2.2.2.2.2.2.2.2.2.2 x10
        have hq5 : kth ys J = kth zs K := HRS.out.2.2.2.2.2.2.2.1
        simp only [Exit.noGoto]
        go_ret2
        exact ⟨ret_ok (by rw [hs5, hq5]; exact E1.out.symm) E2.out.symm, hb5⟩
      · rename_i hcm hJc
        have hcm2 : c < m := by
          have := of_decide_eq_false hcm
          omega
        exact ⟨⟨i, c, cp, us.take c, J, rfl, rfl, rest_within HRS.out HP5.out hJc HM5.out HK5.out⟩, hcm2⟩
      · rename_i hcm hJc
        have hcm2 : c < m := by
          have := of_decide_eq_false hcm
          omega
        have hc0' := rest_some HE.out HP5.out HX3.out
        refine ⟨⟨i + c, m - c, cp - c, us.drop c, J - c, ?_, by rw [HB5.out hcm2], ?_⟩, ?_⟩
        · congr 1; omega
        · have h := rest_beyond HRS.out HP5.out (by omega) HM5.out HK5.out
          have e : ((J : Int) - c) = ((J - c : Nat) : Int) := by omega
          rw [e] at h
          exact h
        · show m - c < m
          omega
  · have e := kv_no (l := zs) (k := k) (by omega)
    have E1 := Lib.hid e.1
    have E2 := Lib.hid e.2
    clear e hr hz hl hA
    by_cases h1 : k < 0
    · clear h0
      go_enter Tryz.func169, Tryz.ntmps169
      go_wp2
      go_step3
      go_wp2
      simp only [Exit.noGoto]
      go_ret2
      exact ⟨ret_ok E1.out.symm E2.out.symm, Below.refl _ _⟩
    · have h2 : (n : Int) ≤ k := by omega
      clear h0
      go_enter Tryz.func169, Tryz.ntmps169
      go_wp2
      go_step3
      go_wp2
      simp only [Exit.noGoto]
      go_ret2
      exact ⟨ret_ok E1.out.symm E2.out.symm, Below.refl _ _⟩
set_option maxRecDepth 100000 in
theorem min_any (A : Option Addr) (n cap : Nat) (zs : List Int) (w : World) (hA : A = none → n = 0 ∧ cap = 0) (hn : n ≤ cap) (hcap : cap ≤ maxLen) (hr : Rd .i64 w A zs) (hl : zs.length = n) (hs : n ≤ 1000) (hz : In64 zs) :
    Calls Tryz.prog 165 #[.slice A n cap] w fun e w' => e = .returned (.tuple #[.int .i64 (kv zs (0)), .bool (kb zs (0))]) ∧ Below w.heap.size w w' := by
  have HR := Lib.hid hr
  have HZ := Lib.hid hz
  have HL := Lib.hid hl
  have HA := Lib.hid hA
  unfold maxLen at hcap
  clear hr hz hl hA
  go_enter Tryz.func165, Tryz.ntmps165
  go_wp2_with (go_at_call 169; (with_reducible refine (kth_any A n cap zs 0 _ HA.out hn (by unfold maxLen; omega) HR.out HL.out hs HZ.out (by omega) (by omega)).mono ?_); rintro e w2 ⟨rfl, hb2⟩)
  go_ret2
  exact ⟨rfl, hb2⟩
theorem med_at (zs : List Int) (n : Nat) (hl : zs.length = n) : kv zs (Int.tdiv ((n : Int) - 1) 2) = kv zs (((zs.length : Int) - 1) / 2) ∧ kb zs (Int.tdiv ((n : Int) - 1) 2) = kb zs (((zs.length : Int) - 1) / 2) := by
  subst hl
  by_cases h : zs.length = 0
  · have e1 := kv_no (l := zs) (k := Int.tdiv ((zs.length : Int) - 1) 2) (.inr (by rw [h]; decide))
    have e2 := kv_no (l := zs) (k := ((zs.length : Int) - 1) / 2) (.inl (by omega))
    exact ⟨e1.1.trans e2.1.symm, e1.2.trans e2.2.symm⟩
  · rw [Int.tdiv_eq_ediv_of_nonneg (by omega)]
    exact ⟨rfl, rfl⟩
set_option maxRecDepth 100000 in
theorem median_any (A : Option Addr) (n cap : Nat) (zs : List Int) (w : World) (hA : A = none → n = 0 ∧ cap = 0) (hn : n ≤ cap) (hcap : cap ≤ maxLen) (hr : Rd .i64 w A zs) (hl : zs.length = n) (hs : n ≤ 1000) (hz : In64 zs) :
    Calls Tryz.prog 166 #[.slice A n cap] w fun e w' => e = .returned (.tuple #[.int .i64 (kv zs (((zs.length : Int) - 1) / 2)), .bool (kb zs (((zs.length : Int) - 1) / 2))]) ∧ Below w.heap.size w w' := by
  have HR := Lib.hid hr
  have HZ := Lib.hid hz
  have HL := Lib.hid hl
  have HA := Lib.hid hA
  have HM := Lib.hid (med_at zs n hl)
  unfold maxLen at hcap
  have t0 : -1 ≤ Int.tdiv ((n : Int) - 1) 2 ∧ Int.tdiv ((n : Int) - 1) 2 ≤ 1000 := by
    by_cases h : n = 0
    · subst h; decide
    · rw [Int.tdiv_eq_ediv_of_nonneg (by omega)]; omega
  clear hr hz hl hA
  go_enter Tryz.func166, Tryz.ntmps166
  go_wp2_with (go_at_call 169; (with_reducible refine (kth_any A n cap zs (Int.tdiv ((n : Int) - 1) 2) _ HA.out hn (by unfold maxLen; omega) HR.out HL.out hs HZ.out (by omega) (by omega)).mono ?_); rintro e w2 ⟨rfl, hb2⟩)
  go_ret2
  exact ⟨ret_ok HM.out.1 HM.out.2, hb2⟩
end Go.Proofs.YtiblpdjehknbcaaGreat.Ord
/- The walks of the document's own answers for layer 5: numbers put in order. Printed by wip/gen/ordref.py. -/
namespace Go.Proofs.YtiblpdjehknbcaaGreat.Ord
open Go Go.RowKit Lw
set_option linter.unusedVariables false
set_option linter.unusedSimpArgs false
theorem ri64_info : (Tryz.prog.info? 2).map (fun i => (i.zero, i.size, i.bytes)) = some (some (.int .i64 0), 1, 8) := by kernel_rfl
theorem ri64s_u : Tryz.prog.underlying 48 = some (.slice 2) := by kernel_rfl
theorem wrap_pred (t : Nat) (h : (t : Int) ≤ 9223372036854775806) : IntKind.i64.wrap ((t : Int) + 1 - 1) = t := by rw [IntKind.wrap_i64]; omega
theorem ret_kb {a b : Int} {p q : Bool} (h : a = b) (g : p = q) : Ending.returned (.tuple #[.int .i64 a, .bool p]) = .returned (.tuple #[.int .i64 b, .bool q]) := by rw [h, g]
set_option maxRecDepth 100000 in
theorem rmin_any (A : Option Addr) (n cap : Nat) (zs : List Int) (w : World) (hA : A = none → n = 0 ∧ cap = 0) (hn : n ≤ cap) (hcap : cap ≤ maxLen) (hr : Rd .i64 w A zs) (hl : zs.length = n) (hs : n ≤ 1000) (hz : In64 zs) :
    Calls Tryz.prog 92 #[.slice A n cap] w fun e w' => e = .returned (.tuple #[.int .i64 (kv zs (0)), .bool (kb zs (0))]) ∧ Below w.heap.size w w' := by
  have HR := Lib.hid hr
  have HZ := Lib.hid hz
  have HL := Lib.hid hl
  unfold maxLen at hcap
  clear hr hz hA
  by_cases h0 : n = 0
  · have e := kv_no (l := zs) (k := 0) (by omega)
    subst h0
    clear hl
    go_enter Tryz.func92, Tryz.ntmps92
    go_wp2
    go_ret2
    exact ⟨ret_kb e.1.symm e.2.symm, Below.refl _ _⟩
  · have hnz : ((n : Int) == 0) = false := by simp; omega
    have h1 : 0 < zs.length := by omega
    obtain ⟨ad, rfl⟩ := HR.out.some_of h1
    have c0 := HR.out.at (j := 0) (v := zs[0]) (List.getElem?_eq_getElem h1)
    have ca0 : ad.add 0 = ad := by unfold Addr.add; simp
    obtain ⟨f, hf⟩ : ∃ f, f = zs[0] := ⟨_, rfl⟩
    rw [← hf] at c0
    have hfm : f ∈ zs := by rw [hf]; exact List.getElem_mem h1
    have fb := HZ.out f hfm
    have HF := Lib.hid hfm
    have h0n : (0 : Int) < n := by omega
    rw [ca0] at c0
    clear hf hfm hl
    go_enter Tryz.func92, Tryz.ntmps92
    go_wp2
    go_loop [4, 5] (fun b i => ∃ (k : Nat) (x : Int), k ≤ n ∧ i = .int .i64 k ∧ b = .int .i64 x ∧ x ∈ zs ∧ ∀ y ∈ zs.take k, x ≤ y) (fun _ i => n - (intOf i).toNat)
    case atStart => exact ⟨0, f, Nat.zero_le _, rfl, rfl, HF.out, fun y hy => by simp at hy⟩
    case round =>
      obtain ⟨k, x, hk, rfl, rfl, hx, hall⟩ := hrel
      have xb := HZ.out x hx
      have HX := Lib.hid hx
      have HA := Lib.hid hall
      clear hx hall
      by_cases hlt : k < n
      · have hkl : k < zs.length := by have := HL.out; omega
        obtain ⟨v, hv⟩ : ∃ v, zs[k]? = some v := ⟨_, List.getElem?_eq_getElem hkl⟩
        have hc := HR.out.at hv
        have hvm := List.mem_of_getElem? hv
        have vb := HZ.out v hvm
        have HV := Lib.hid hvm
        have HN := Lib.hid (take_next zs k v hv)
        clear hv hvm
        by_cases h2 : v < x
        · go_wp2
          go_round
          case rel => exact ⟨k + 1, v, by omega, by go_num, rfl, HV.out, fun y hy => by rw [HN.out] at hy; rcases List.mem_append.1 hy with h3 | h3; (have := HA.out y h3; omega); (simp at h3; omega)⟩
          case measure => simp [intOf]; omega
        · go_wp2
          all_goals first | (exfalso; omega) | skip
          go_round
          case rel => exact ⟨k + 1, x, by omega, by go_num, by first | rfl | (congr 1; omega), HX.out, fun y hy => by rw [HN.out] at hy; rcases List.mem_append.1 hy with h3 | h3; (exact HA.out y h3); (simp at h3; omega)⟩
          case measure => simp [intOf]; omega
      · have e : k = n := by omega
        subst e
        have e1 := kv_yes (l := zs) (k := 0) (by omega) (by have := HL.out; omega)
        have e2 := least_eq zs x HX.out (fun y hy => HA.out y (by rw [List.take_of_length_le (by have := HL.out; omega)]; exact hy))
        have E := Lib.hid (e1.1.trans e2.symm)
        have E2 := Lib.hid e1.2
        clear e1 e2
        go_wp2
        go_ret2
        exact ⟨ret_kb E.out.symm E2.out.symm, Below.refl _ _⟩
set_option maxRecDepth 100000 in
set_option maxHeartbeats 4000000 in
theorem rsorted_any (A : Option Addr) (n cap : Nat) (zs : List Int) (w : World) (hA : A = none → n = 0 ∧ cap = 0) (hn : n ≤ cap) (hcap : cap ≤ maxLen) (hr : Rd .i64 w A zs) (hl : zs.length = n) (hs : n ≤ 1000) (hz : In64 zs) :
    Calls Tryz.prog 99 #[.slice A n cap] w fun e w' => ∃ (A2 : Addr) (cap2 : Nat), e = .returned (.slice (some A2) n cap2) ∧ Rd .i64 w' (some A2) (srt zs) ∧ n ≤ cap2 ∧ cap2 ≤ maxLen ∧ Below w.heap.size w w' := by
  obtain ⟨i0, hi, hz0, hz1, hz2⟩ := info_parts ri64_info
  have HR := Lib.hid hr
  have HZ := Lib.hid hz
  have HL := Lib.hid hl
  unfold maxLen at hcap
  clear hr hz hA hl
  go_enter Tryz.func99, Tryz.ntmps99
  go_wp2
  go_loopw [3, 4] (fun v i wr => ∃ (k : Nat) (ad : Addr) (cp : Nat), k ≤ n ∧ i = .int .i64 k ∧ v = .slice (some ad) k cp ∧ Rd .i64 wr (some ad) (srt (zs.take k)) ∧ k ≤ cp ∧ cp ≤ 9223372036854775807 ∧ Below w.heap.size w wr) (fun _ i _ => n - (intOf i).toNat)
  case atStart => exact ⟨0, ⟨w.heap.size, 0, none⟩, 0, Nat.zero_le _, rfl, rfl, rd_nil _ _ _, by omega, by omega, Lw.below_alloc (Below.refl _ _) _⟩
  case round =>
    obtain ⟨k, ad, cp, hk, rfl, rfl, hro, hkc, hcm, hbel⟩ := hrel
    by_cases hlt : k < n
    · have hkl : k < zs.length := by have := HL.out; omega
      obtain ⟨x, hv⟩ : ∃ x, zs[k]? = some x := ⟨_, List.getElem?_eq_getElem hkl⟩
      obtain ⟨lad, rfl, hcw⟩ := HR.out k x hv
      have hcx := cell_up hcw hbel
      have hxb := HZ.out.at hv
      have hnext : srt (zs.take (k + 1)) = put (srt (zs.take k)) x := by rw [srt_next zs k hkl]; congr 1; have := (List.getElem?_eq_some_iff.1 hv).2; exact this
      have hol : (srt (zs.take k)).length = k := by rw [srt_len, List.length_take]; omega
      have hoz : In64 (srt (zs.take k)) := fun y hy => HZ.out y (List.mem_of_mem_take ((srt_perm _).mem_iff.1 hy))
      obtain ⟨out, hout⟩ : ∃ out, srt (zs.take k) = out := ⟨_, rfl⟩
      rw [hout] at hro hnext hol hoz
      have HNX := Lib.hid hnext
      have HO := Lib.hid hol
      have HOZ := Lib.hid hoz
      have HRO := Lib.hid hro
      have HB := Lib.hid hbel
      have hpl := posN_le out x k
      obtain ⟨p, hp⟩ : ∃ p, posN out x k = p := ⟨_, rfl⟩
      rw [hp] at hpl
      have HP := Lib.hid hp
      clear hv hcw hnext hol hoz hro hbel hp hout
      go_wp2
      go_loopw [5] (fun a wi => ∃ j d : Nat, j ≤ k ∧ a = .int .i64 j ∧ posN out x j = p ∧ wi = wr.drewN d) (fun a _ => (intOf a).toNat)
      case atStart => exact ⟨k, 0, Nat.le_refl _, rfl, HP.out, rfl⟩
      case round =>
        obtain ⟨j, d, hj, rfl, hpj, rfl⟩ := hrel
        by_cases hjp : j = p
        · have hjp2 := hjp.symm
          subst hjp2
          clear hpj hjp
          by_cases hp0 : p = 0
          · have hp1 : decide (0 < p) = false := by simp; omega
            clear hp0
            go_wp2
            go_quiet (fail)
            by_cases hcp : cp = p
            · have e1 : p = k := by omega
              subst e1
              subst hcp
              go_wp2_with (at_builtin; refine app_any .i64 rfl _ _ 48 rfl wr.heap.size 2 i0 8 ri64s_u hi hz0 hz1 hz2 (.slice (some ⟨wr.heap.size, 0, none⟩) 0 0) 0 [] rfl (own_empty wr _ _ _ (Nat.le_refl _)) (fun h => by cases h) (some ad) 0 0 [] rfl (by simp) rfl (rd_nil _ _ _) (by unfold maxLen; omega) (by omega) (by simp) ?_; intro A6 cap6 w6 own6 grow6 rd6 c6 d6; have hb6 : Below wr.heap.size wr w6 := app_below2 (by (repeat' (first | (with_reducible exact Below.refl _ _) | (with_reducible assumption) | (with_reducible refine below_over ?_ _ _) | (with_reducible refine Lw.below_alloc ?_ _) | (with_reducible refine Below.drew ?_) | (with_reducible refine below_drewN ?_ _) | (with_reducible refine Below.setCell ?_ ?_ _) | go_size))) grow6 (by simp); (try simp only [Nat.zero_add, List.nil_append] at own6 rd6 c6); (try simp only [Nat.zero_add]))
              have HRO6 := Lib.hid (HRO.out.up hb6)
              have HR6 := Lib.hid rd6
              have hx6 := cell_up hcx hb6
              have HB6 := Lib.hid (below_call HB.out hb6 (Nat.le_refl _))
              unfold maxLen at d6
              clear own6 grow6 rd6 hcx hb6
              go_region_held3 (fun w' => Below w6.heap.size w6 w' ∧ w'.cell? (lad.add cp) = some (.int .i64 x)) (first | (refine ⟨?_, cell_up hx6 ?_⟩ <;> (repeat' (first | (with_reducible exact Below.refl _ _) | (with_reducible assumption) | (with_reducible refine below_over ?_ _ _) | (with_reducible refine Lw.below_alloc ?_ _) | (with_reducible refine Below.drew ?_) | (with_reducible refine below_drewN ?_ _) | (with_reducible refine Below.setCell ?_ ?_ _) | go_size)))) (first
                | (refine app_step .i64 rfl _ _ 48 rfl w6.heap.size 2 i0 8 ri64s_u hi hz0 hz1 hz2 _ 0 [] rfl (by first | exact own_empty w6 _ _ _ (Nat.le_refl _) | exact (own_empty w6 _ _ _ (Nat.le_refl _)).alloc _ | exact own_empty2 w6 _ _ _ _ (Nat.le_refl _)) (fun h => by cases h) (some ad) cp cp (out.take cp) rfl (by simp) (by have := HO.out; simp; omega) (Rd.up (Rd.take HRO6.out cp) (by (repeat' (first | (with_reducible exact Below.refl _ _) | (with_reducible assumption) | (with_reducible refine below_over ?_ _ _) | (with_reducible refine Lw.below_alloc ?_ _) | (with_reducible refine Below.drew ?_) | (with_reducible refine below_drewN ?_ _) | (with_reducible refine Below.setCell ?_ ?_ _) | go_size)))) (by unfold maxLen; omega) (by omega) (by simp <;> omega) ?_; intro A7 cap7 w7 own7 grow7 rd7 c7 d7; have hb7 : Below w6.heap.size w6 w7 := app_below2 (by (repeat' (first | (with_reducible exact Below.refl _ _) | (with_reducible assumption) | (with_reducible refine below_over ?_ _ _) | (with_reducible refine Lw.below_alloc ?_ _) | (with_reducible refine Below.drew ?_) | (with_reducible refine below_drewN ?_ _) | (with_reducible refine Below.setCell ?_ ?_ _) | go_size))) grow7 (by simp); (try simp only [Nat.zero_add, List.nil_append] at own7 rd7 c7); (try simp only [Nat.zero_add]))
                | (refine app_step .i64 rfl _ _ 48 rfl w6.heap.size 2 i0 8 ri64s_u hi hz0 hz1 hz2 (.slice (some A7) cp cap7) cp (out.take cp) rfl (by first | exact own7.alloc _ | exact own7) (fun h => by cases h) _ 1 1 [x] rfl (by simp) rfl (rd_one (by first | (simp [go_sem]; done) | exact grow7.cell (by simp [go_sem]) (by first | exact fun hne => absurd (Option.some.inj (show some (w6.heap.size + 1) = some w6.heap.size from hne)) (by omega) | exact fun hne => absurd (Option.some.inj (show some w6.heap.size = some (w6.heap.size + 1) from hne)) (by omega)))) (by unfold maxLen; omega) (by omega) (by have := hb7.size; simp <;> omega) ?_; intro A8 cap8 w8 own8 grow8 rd8 c8 d8; have hb8 : Below w6.heap.size w6 w8 := app_below3 (by (repeat' (first | (with_reducible exact Below.refl _ _) | (with_reducible assumption) | (with_reducible refine below_over ?_ _ _) | (with_reducible refine Lw.below_alloc ?_ _) | (with_reducible refine Below.drew ?_) | (with_reducible refine below_drewN ?_ _) | (with_reducible refine Below.setCell ?_ ?_ _) | go_size))) grow8 (fun q hq => own_ge own7 q hq); (try simp only [Nat.zero_add, List.nil_append] at own8 rd8 c8); (try simp only [Nat.zero_add]))
                | (refine app_step .i64 rfl _ _ 48 rfl w6.heap.size 2 i0 8 ri64s_u hi hz0 hz1 hz2 (.slice (some A8) (cp + 1) cap8) (cp + 1) (out.take cp ++ [x]) rfl own8 (fun h => by cases h) (some A6) 0 cap6 [] rfl (by simp) rfl (Rd.up HR6.out hb8) (by unfold maxLen; omega) (by omega) hb8.size ?_; intro A9 cap9 w9 own9 grow9 rd9 c9 d9; have hb9 : Below w6.heap.size w6 w9 := app_below3 (by (repeat' (first | (with_reducible exact Below.refl _ _) | (with_reducible assumption) | (with_reducible refine below_over ?_ _ _) | (with_reducible refine Lw.below_alloc ?_ _) | (with_reducible refine Below.drew ?_) | (with_reducible refine below_drewN ?_ _) | (with_reducible refine Below.setCell ?_ ?_ _) | go_size))) grow9 (fun q hq => own_ge own8 q hq); (try simp only [Nat.zero_add, List.nil_append] at own9 rd9 c9); (try simp only [Nat.zero_add])))
              all_goals go_wp2
              all_goals go_roundw
              all_goals first
                | exact ⟨cp + 1, A9, cap9, by omega, by go_num, by first | rfl | (congr 1; omega), by rw [HNX.out]; unfold put; rw [HO.out, HP.out, List.drop_of_length_le (by have := HO.out; omega)]; have h9 := rd9; simpa using h9, by omega, by unfold maxLen at d9; omega, below_call HB6.out hb9 (Nat.le_refl _)⟩
                | (simp [intOf]; omega)
            · have hs1 : ¬ ((cp : Nat) : Int) < (p : Int) := by omega
              have hs2 : ¬ ((k : Nat) : Int) < (p : Int) := by omega
              have hs4 : ¬ cp < p := by omega
              go_wp2_with (at_builtin; refine app_any .i64 rfl _ _ 48 rfl wr.heap.size 2 i0 8 ri64s_u hi hz0 hz1 hz2 (.slice (some ⟨wr.heap.size, 0, none⟩) 0 0) 0 [] rfl (own_empty wr _ _ _ (Nat.le_refl _)) (fun h => by cases h) (some (ad.add p)) (k - p) (cp - p) (out.drop p) rfl (by simp) (by have := HO.out; simp; omega) (Rd.up (Rd.drop HRO.out p) (by (repeat' (first | (with_reducible exact Below.refl _ _) | (with_reducible assumption) | (with_reducible refine below_over ?_ _ _) | (with_reducible refine Lw.below_alloc ?_ _) | (with_reducible refine Below.drew ?_) | (with_reducible refine below_drewN ?_ _) | (with_reducible refine Below.setCell ?_ ?_ _) | go_size)))) (by unfold maxLen; omega) (by omega) (by simp) ?_; intro A6 cap6 w6 own6 grow6 rd6 c6 d6; have hb6 : Below wr.heap.size wr w6 := app_below2 (by (repeat' (first | (with_reducible exact Below.refl _ _) | (with_reducible assumption) | (with_reducible refine below_over ?_ _ _) | (with_reducible refine Lw.below_alloc ?_ _) | (with_reducible refine Below.drew ?_) | (with_reducible refine below_drewN ?_ _) | (with_reducible refine Below.setCell ?_ ?_ _) | go_size))) grow6 (by simp); (try simp only [Nat.zero_add, List.nil_append] at own6 rd6 c6); (try simp only [Nat.zero_add]))
              have HRO6 := Lib.hid (HRO.out.up hb6)
              have HR6 := Lib.hid rd6
              have hx6 := cell_up hcx hb6
              have HB6 := Lib.hid (below_call HB.out hb6 (Nat.le_refl _))
              unfold maxLen at d6
              clear own6 grow6 rd6 hcx hb6
              go_region_held3 (fun w' => Below w6.heap.size w6 w' ∧ w'.cell? (lad.add k) = some (.int .i64 x)) (first | (refine ⟨?_, cell_up hx6 ?_⟩ <;> (repeat' (first | (with_reducible exact Below.refl _ _) | (with_reducible assumption) | (with_reducible refine below_over ?_ _ _) | (with_reducible refine Lw.below_alloc ?_ _) | (with_reducible refine Below.drew ?_) | (with_reducible refine below_drewN ?_ _) | (with_reducible refine Below.setCell ?_ ?_ _) | go_size)))) (first
                | (refine app_step .i64 rfl _ _ 48 rfl w6.heap.size 2 i0 8 ri64s_u hi hz0 hz1 hz2 _ 0 [] rfl (by first | exact own_empty w6 _ _ _ (Nat.le_refl _) | exact (own_empty w6 _ _ _ (Nat.le_refl _)).alloc _ | exact own_empty2 w6 _ _ _ _ (Nat.le_refl _)) (fun h => by cases h) (some ad) p cp (out.take p) rfl (by simp) (by have := HO.out; simp; omega) (Rd.up (Rd.take HRO6.out p) (by (repeat' (first | (with_reducible exact Below.refl _ _) | (with_reducible assumption) | (with_reducible refine below_over ?_ _ _) | (with_reducible refine Lw.below_alloc ?_ _) | (with_reducible refine Below.drew ?_) | (with_reducible refine below_drewN ?_ _) | (with_reducible refine Below.setCell ?_ ?_ _) | go_size)))) (by unfold maxLen; omega) (by omega) (by simp <;> omega) ?_; intro A7 cap7 w7 own7 grow7 rd7 c7 d7; have hb7 : Below w6.heap.size w6 w7 := app_below2 (by (repeat' (first | (with_reducible exact Below.refl _ _) | (with_reducible assumption) | (with_reducible refine below_over ?_ _ _) | (with_reducible refine Lw.below_alloc ?_ _) | (with_reducible refine Below.drew ?_) | (with_reducible refine below_drewN ?_ _) | (with_reducible refine Below.setCell ?_ ?_ _) | go_size))) grow7 (by simp); (try simp only [Nat.zero_add, List.nil_append] at own7 rd7 c7); (try simp only [Nat.zero_add]))
                | (refine app_step .i64 rfl _ _ 48 rfl w6.heap.size 2 i0 8 ri64s_u hi hz0 hz1 hz2 (.slice (some A7) p cap7) p (out.take p) rfl (by first | exact own7.alloc _ | exact own7) (fun h => by cases h) _ 1 1 [x] rfl (by simp) rfl (rd_one (by first | (simp [go_sem]; done) | exact grow7.cell (by simp [go_sem]) (by first | exact fun hne => absurd (Option.some.inj (show some (w6.heap.size + 1) = some w6.heap.size from hne)) (by omega) | exact fun hne => absurd (Option.some.inj (show some w6.heap.size = some (w6.heap.size + 1) from hne)) (by omega)))) (by unfold maxLen; omega) (by omega) (by have := hb7.size; simp <;> omega) ?_; intro A8 cap8 w8 own8 grow8 rd8 c8 d8; have hb8 : Below w6.heap.size w6 w8 := app_below3 (by (repeat' (first | (with_reducible exact Below.refl _ _) | (with_reducible assumption) | (with_reducible refine below_over ?_ _ _) | (with_reducible refine Lw.below_alloc ?_ _) | (with_reducible refine Below.drew ?_) | (with_reducible refine below_drewN ?_ _) | (with_reducible refine Below.setCell ?_ ?_ _) | go_size))) grow8 (fun q hq => own_ge own7 q hq); (try simp only [Nat.zero_add, List.nil_append] at own8 rd8 c8); (try simp only [Nat.zero_add]))
                | (refine app_step .i64 rfl _ _ 48 rfl w6.heap.size 2 i0 8 ri64s_u hi hz0 hz1 hz2 (.slice (some A8) (p + 1) cap8) (p + 1) (out.take p ++ [x]) rfl own8 (fun h => by cases h) (some A6) (k - p) cap6 (out.drop p) rfl (by simp) (by have := HO.out; simp; omega) (Rd.up HR6.out hb8) (by unfold maxLen; omega) (by omega) hb8.size ?_; intro A9 cap9 w9 own9 grow9 rd9 c9 d9; have hb9 : Below w6.heap.size w6 w9 := app_below3 (by (repeat' (first | (with_reducible exact Below.refl _ _) | (with_reducible assumption) | (with_reducible refine below_over ?_ _ _) | (with_reducible refine Lw.below_alloc ?_ _) | (with_reducible refine Below.drew ?_) | (with_reducible refine below_drewN ?_ _) | (with_reducible refine Below.setCell ?_ ?_ _) | go_size))) grow9 (fun q hq => own_ge own8 q hq); (try simp only [Nat.zero_add, List.nil_append] at own9 rd9 c9); (try simp only [Nat.zero_add])))
              all_goals go_wp2
              all_goals go_roundw
              all_goals first
                | exact ⟨k + 1, A9, cap9, by omega, by go_num, by first | rfl | (congr 1; omega), by rw [HNX.out]; unfold put; rw [HO.out, HP.out]; have h9 := rd9; simpa using h9, by omega, by unfold maxLen at d9; omega, below_call HB6.out hb9 (Nat.le_refl _)⟩
                | (simp [intOf]; omega)
          · obtain ⟨t, ht⟩ : ∃ t : Nat, p = t + 1 := ⟨p - 1, by omega⟩
            have htl : t < out.length := by have := HO.out; omega
            obtain ⟨y, hy⟩ : ∃ y, out[t]? = some y := ⟨_, List.getElem?_eq_getElem htl⟩
            have hcy := HRO.out.at hy
            have hyb := HOZ.out.at hy
            have hxy : ¬ x < y := by
              have h1 := posN_lo out x k (by rw [HP.out]; omega)
              rw [HP.out, ht, show t + 1 - 1 = t from rfl, hy] at h1
              have h2 : y ≤ x := h1
              omega
            have hw : IntKind.i64.wrap ((p : Int) - 1) = (t : Int) := by rw [IntKind.wrap_i64]; omega
            have hp1 : 0 < p := by omega
            have htk : (t : Int) < (k : Int) := by omega
            clear hp0 hy ht htl
            go_wp2
            go_quiet (fail)
            clear hcy hw htk hyb
            by_cases hcp : cp = p
            · have e1 : p = k := by omega
              subst e1
              subst hcp
              go_wp2_with (at_builtin; refine app_any .i64 rfl _ _ 48 rfl wr.heap.size 2 i0 8 ri64s_u hi hz0 hz1 hz2 (.slice (some ⟨wr.heap.size, 0, none⟩) 0 0) 0 [] rfl (own_empty wr _ _ _ (Nat.le_refl _)) (fun h => by cases h) (some ad) 0 0 [] rfl (by simp) rfl (rd_nil _ _ _) (by unfold maxLen; omega) (by omega) (by simp) ?_; intro A6 cap6 w6 own6 grow6 rd6 c6 d6; have hb6 : Below wr.heap.size wr w6 := app_below2 (by (repeat' (first | (with_reducible exact Below.refl _ _) | (with_reducible assumption) | (with_reducible refine below_over ?_ _ _) | (with_reducible refine Lw.below_alloc ?_ _) | (with_reducible refine Below.drew ?_) | (with_reducible refine below_drewN ?_ _) | (with_reducible refine Below.setCell ?_ ?_ _) | go_size))) grow6 (by simp); (try simp only [Nat.zero_add, List.nil_append] at own6 rd6 c6); (try simp only [Nat.zero_add]))
              have HRO6 := Lib.hid (HRO.out.up hb6)
              have HR6 := Lib.hid rd6
              have hx6 := cell_up hcx hb6
              have HB6 := Lib.hid (below_call HB.out hb6 (Nat.le_refl _))
              unfold maxLen at d6
              clear own6 grow6 rd6 hcx hb6
              go_region_held3 (fun w' => Below w6.heap.size w6 w' ∧ w'.cell? (lad.add cp) = some (.int .i64 x)) (first | (refine ⟨?_, cell_up hx6 ?_⟩ <;> (repeat' (first | (with_reducible exact Below.refl _ _) | (with_reducible assumption) | (with_reducible refine below_over ?_ _ _) | (with_reducible refine Lw.below_alloc ?_ _) | (with_reducible refine Below.drew ?_) | (with_reducible refine below_drewN ?_ _) | (with_reducible refine Below.setCell ?_ ?_ _) | go_size)))) (first
                | (refine app_step .i64 rfl _ _ 48 rfl w6.heap.size 2 i0 8 ri64s_u hi hz0 hz1 hz2 _ 0 [] rfl (by first | exact own_empty w6 _ _ _ (Nat.le_refl _) | exact (own_empty w6 _ _ _ (Nat.le_refl _)).alloc _ | exact own_empty2 w6 _ _ _ _ (Nat.le_refl _)) (fun h => by cases h) (some ad) cp cp (out.take cp) rfl (by simp) (by have := HO.out; simp; omega) (Rd.up (Rd.take HRO6.out cp) (by (repeat' (first | (with_reducible exact Below.refl _ _) | (with_reducible assumption) | (with_reducible refine below_over ?_ _ _) | (with_reducible refine Lw.below_alloc ?_ _) | (with_reducible refine Below.drew ?_) | (with_reducible refine below_drewN ?_ _) | (with_reducible refine Below.setCell ?_ ?_ _) | go_size)))) (by unfold maxLen; omega) (by omega) (by simp <;> omega) ?_; intro A7 cap7 w7 own7 grow7 rd7 c7 d7; have hb7 : Below w6.heap.size w6 w7 := app_below2 (by (repeat' (first | (with_reducible exact Below.refl _ _) | (with_reducible assumption) | (with_reducible refine below_over ?_ _ _) | (with_reducible refine Lw.below_alloc ?_ _) | (with_reducible refine Below.drew ?_) | (with_reducible refine below_drewN ?_ _) | (with_reducible refine Below.setCell ?_ ?_ _) | go_size))) grow7 (by simp); (try simp only [Nat.zero_add, List.nil_append] at own7 rd7 c7); (try simp only [Nat.zero_add]))
                | (refine app_step .i64 rfl _ _ 48 rfl w6.heap.size 2 i0 8 ri64s_u hi hz0 hz1 hz2 (.slice (some A7) cp cap7) cp (out.take cp) rfl (by first | exact own7.alloc _ | exact own7) (fun h => by cases h) _ 1 1 [x] rfl (by simp) rfl (rd_one (by first | (simp [go_sem]; done) | exact grow7.cell (by simp [go_sem]) (by first | exact fun hne => absurd (Option.some.inj (show some (w6.heap.size + 1) = some w6.heap.size from hne)) (by omega) | exact fun hne => absurd (Option.some.inj (show some w6.heap.size = some (w6.heap.size + 1) from hne)) (by omega)))) (by unfold maxLen; omega) (by omega) (by have := hb7.size; simp <;> omega) ?_; intro A8 cap8 w8 own8 grow8 rd8 c8 d8; have hb8 : Below w6.heap.size w6 w8 := app_below3 (by (repeat' (first | (with_reducible exact Below.refl _ _) | (with_reducible assumption) | (with_reducible refine below_over ?_ _ _) | (with_reducible refine Lw.below_alloc ?_ _) | (with_reducible refine Below.drew ?_) | (with_reducible refine below_drewN ?_ _) | (with_reducible refine Below.setCell ?_ ?_ _) | go_size))) grow8 (fun q hq => own_ge own7 q hq); (try simp only [Nat.zero_add, List.nil_append] at own8 rd8 c8); (try simp only [Nat.zero_add]))
                | (refine app_step .i64 rfl _ _ 48 rfl w6.heap.size 2 i0 8 ri64s_u hi hz0 hz1 hz2 (.slice (some A8) (cp + 1) cap8) (cp + 1) (out.take cp ++ [x]) rfl own8 (fun h => by cases h) (some A6) 0 cap6 [] rfl (by simp) rfl (Rd.up HR6.out hb8) (by unfold maxLen; omega) (by omega) hb8.size ?_; intro A9 cap9 w9 own9 grow9 rd9 c9 d9; have hb9 : Below w6.heap.size w6 w9 := app_below3 (by (repeat' (first | (with_reducible exact Below.refl _ _) | (with_reducible assumption) | (with_reducible refine below_over ?_ _ _) | (with_reducible refine Lw.below_alloc ?_ _) | (with_reducible refine Below.drew ?_) | (with_reducible refine below_drewN ?_ _) | (with_reducible refine Below.setCell ?_ ?_ _) | go_size))) grow9 (fun q hq => own_ge own8 q hq); (try simp only [Nat.zero_add, List.nil_append] at own9 rd9 c9); (try simp only [Nat.zero_add])))
              all_goals go_wp2
              all_goals go_roundw
              all_goals first
                | exact ⟨cp + 1, A9, cap9, by omega, by go_num, by first | rfl | (congr 1; omega), by rw [HNX.out]; unfold put; rw [HO.out, HP.out, List.drop_of_length_le (by have := HO.out; omega)]; have h9 := rd9; simpa using h9, by omega, by unfold maxLen at d9; omega, below_call HB6.out hb9 (Nat.le_refl _)⟩
                | (simp [intOf]; omega)
            · have hs1 : ¬ ((cp : Nat) : Int) < (p : Int) := by omega
              have hs2 : ¬ ((k : Nat) : Int) < (p : Int) := by omega
              have hs4 : ¬ cp < p := by omega
              go_wp2_with (at_builtin; refine app_any .i64 rfl _ _ 48 rfl wr.heap.size 2 i0 8 ri64s_u hi hz0 hz1 hz2 (.slice (some ⟨wr.heap.size, 0, none⟩) 0 0) 0 [] rfl (own_empty wr _ _ _ (Nat.le_refl _)) (fun h => by cases h) (some (ad.add p)) (k - p) (cp - p) (out.drop p) rfl (by simp) (by have := HO.out; simp; omega) (Rd.up (Rd.drop HRO.out p) (by (repeat' (first | (with_reducible exact Below.refl _ _) | (with_reducible assumption) | (with_reducible refine below_over ?_ _ _) | (with_reducible refine Lw.below_alloc ?_ _) | (with_reducible refine Below.drew ?_) | (with_reducible refine below_drewN ?_ _) | (with_reducible refine Below.setCell ?_ ?_ _) | go_size)))) (by unfold maxLen; omega) (by omega) (by simp) ?_; intro A6 cap6 w6 own6 grow6 rd6 c6 d6; have hb6 : Below wr.heap.size wr w6 := app_below2 (by (repeat' (first | (with_reducible exact Below.refl _ _) | (with_reducible assumption) | (with_reducible refine below_over ?_ _ _) | (with_reducible refine Lw.below_alloc ?_ _) | (with_reducible refine Below.drew ?_) | (with_reducible refine below_drewN ?_ _) | (with_reducible refine Below.setCell ?_ ?_ _) | go_size))) grow6 (by simp); (try simp only [Nat.zero_add, List.nil_append] at own6 rd6 c6); (try simp only [Nat.zero_add]))
              have HRO6 := Lib.hid (HRO.out.up hb6)
              have HR6 := Lib.hid rd6
              have hx6 := cell_up hcx hb6
              have HB6 := Lib.hid (below_call HB.out hb6 (Nat.le_refl _))
              unfold maxLen at d6
              clear own6 grow6 rd6 hcx hb6
              go_region_held3 (fun w' => Below w6.heap.size w6 w' ∧ w'.cell? (lad.add k) = some (.int .i64 x)) (first | (refine ⟨?_, cell_up hx6 ?_⟩ <;> (repeat' (first | (with_reducible exact Below.refl _ _) | (with_reducible assumption) | (with_reducible refine below_over ?_ _ _) | (with_reducible refine Lw.below_alloc ?_ _) | (with_reducible refine Below.drew ?_) | (with_reducible refine below_drewN ?_ _) | (with_reducible refine Below.setCell ?_ ?_ _) | go_size)))) (first
                | (refine app_step .i64 rfl _ _ 48 rfl w6.heap.size 2 i0 8 ri64s_u hi hz0 hz1 hz2 _ 0 [] rfl (by first | exact own_empty w6 _ _ _ (Nat.le_refl _) | exact (own_empty w6 _ _ _ (Nat.le_refl _)).alloc _ | exact own_empty2 w6 _ _ _ _ (Nat.le_refl _)) (fun h => by cases h) (some ad) p cp (out.take p) rfl (by simp) (by have := HO.out; simp; omega) (Rd.up (Rd.take HRO6.out p) (by (repeat' (first | (with_reducible exact Below.refl _ _) | (with_reducible assumption) | (with_reducible refine below_over ?_ _ _) | (with_reducible refine Lw.below_alloc ?_ _) | (with_reducible refine Below.drew ?_) | (with_reducible refine below_drewN ?_ _) | (with_reducible refine Below.setCell ?_ ?_ _) | go_size)))) (by unfold maxLen; omega) (by omega) (by simp <;> omega) ?_; intro A7 cap7 w7 own7 grow7 rd7 c7 d7; have hb7 : Below w6.heap.size w6 w7 := app_below2 (by (repeat' (first | (with_reducible exact Below.refl _ _) | (with_reducible assumption) | (with_reducible refine below_over ?_ _ _) | (with_reducible refine Lw.below_alloc ?_ _) | (with_reducible refine Below.drew ?_) | (with_reducible refine below_drewN ?_ _) | (with_reducible refine Below.setCell ?_ ?_ _) | go_size))) grow7 (by simp); (try simp only [Nat.zero_add, List.nil_append] at own7 rd7 c7); (try simp only [Nat.zero_add]))
                | (refine app_step .i64 rfl _ _ 48 rfl w6.heap.size 2 i0 8 ri64s_u hi hz0 hz1 hz2 (.slice (some A7) p cap7) p (out.take p) rfl (by first | exact own7.alloc _ | exact own7) (fun h => by cases h) _ 1 1 [x] rfl (by simp) rfl (rd_one (by first | (simp [go_sem]; done) | exact grow7.cell (by simp [go_sem]) (by first | exact fun hne => absurd (Option.some.inj (show some (w6.heap.size + 1) = some w6.heap.size from hne)) (by omega) | exact fun hne => absurd (Option.some.inj (show some w6.heap.size = some (w6.heap.size + 1) from hne)) (by omega)))) (by unfold maxLen; omega) (by omega) (by have := hb7.size; simp <;> omega) ?_; intro A8 cap8 w8 own8 grow8 rd8 c8 d8; have hb8 : Below w6.heap.size w6 w8 := app_below3 (by (repeat' (first | (with_reducible exact Below.refl _ _) | (with_reducible assumption) | (with_reducible refine below_over ?_ _ _) | (with_reducible refine Lw.below_alloc ?_ _) | (with_reducible refine Below.drew ?_) | (with_reducible refine below_drewN ?_ _) | (with_reducible refine Below.setCell ?_ ?_ _) | go_size))) grow8 (fun q hq => own_ge own7 q hq); (try simp only [Nat.zero_add, List.nil_append] at own8 rd8 c8); (try simp only [Nat.zero_add]))
                | (refine app_step .i64 rfl _ _ 48 rfl w6.heap.size 2 i0 8 ri64s_u hi hz0 hz1 hz2 (.slice (some A8) (p + 1) cap8) (p + 1) (out.take p ++ [x]) rfl own8 (fun h => by cases h) (some A6) (k - p) cap6 (out.drop p) rfl (by simp) (by have := HO.out; simp; omega) (Rd.up HR6.out hb8) (by unfold maxLen; omega) (by omega) hb8.size ?_; intro A9 cap9 w9 own9 grow9 rd9 c9 d9; have hb9 : Below w6.heap.size w6 w9 := app_below3 (by (repeat' (first | (with_reducible exact Below.refl _ _) | (with_reducible assumption) | (with_reducible refine below_over ?_ _ _) | (with_reducible refine Lw.below_alloc ?_ _) | (with_reducible refine Below.drew ?_) | (with_reducible refine below_drewN ?_ _) | (with_reducible refine Below.setCell ?_ ?_ _) | go_size))) grow9 (fun q hq => own_ge own8 q hq); (try simp only [Nat.zero_add, List.nil_append] at own9 rd9 c9); (try simp only [Nat.zero_add])))
              all_goals go_wp2
              all_goals go_roundw
              all_goals first
                | exact ⟨k + 1, A9, cap9, by omega, by go_num, by first | rfl | (congr 1; omega), by rw [HNX.out]; unfold put; rw [HO.out, HP.out]; have h9 := rd9; simpa using h9, by omega, by unfold maxLen at d9; omega, below_call HB6.out hb9 (Nat.le_refl _)⟩
                | (simp [intOf]; omega)
        · obtain ⟨t, rfl⟩ : ∃ t : Nat, j = t + 1 := ⟨j - 1, by have := posN_le out x j; omega⟩
          have htl : t < out.length := by have := HO.out; omega
          obtain ⟨y, hy⟩ : ∃ y, out[t]? = some y := ⟨_, List.getElem?_eq_getElem htl⟩
          have hcy := HRO.out.at hy
          have hyb := HOZ.out.at hy
          have hgd : out[t]?.getD 0 = y := by rw [hy]; rfl
          have hxy : x < y := by
            refine Decidable.by_contra fun h => hjp ?_
            rw [← hpj]; show _ = (if x < out[t]?.getD 0 then _ else _); rw [hgd, if_neg h]
          have hw := wrap_pred t (by omega)
          have ht0 : (0 : Int) < (t : Int) + 1 := by omega
          have ht1 : ((t + 1 : Nat) : Int) = (t : Int) + 1 := by omega
          have hpt : posN out x t = p := by rw [← hpj]; show posN out x t = (if x < out[t]?.getD 0 then _ else _); rw [hgd, if_pos hxy]
          have HPT := Lib.hid hpt
          rw [ht1]
          clear hpj hpt hgd hy ht1 hjp
          go_wp2
          go_quiet (fail)
          go_wp2
          go_roundw
          case rel => exact ⟨t, _, by omega, by go_num, HPT.out, rfl⟩
          case measure => simp [intOf]
    · have e : k = n := by omega
      subst e
      rw [List.take_of_length_le (by have := HL.out; omega)] at hro
      have HRO := Lib.hid hro
      have HB := Lib.hid hbel
      clear hro hbel
      go_wp2
      go_ret
      exact ⟨_, _, rfl, HRO.out, hkc, by unfold maxLen; omega, HB.out⟩
theorem kth_get (zs : List Int) (k : Nat) (h : k < zs.length) : (srt zs)[k]? = some (kth zs k) := by
  unfold kth
  rw [List.getElem?_eq_getElem (by rw [srt_len]; exact h)]
  rfl
set_option maxRecDepth 100000 in
theorem rmedian_any (A : Option Addr) (n cap : Nat) (zs : List Int) (w : World) (hA : A = none → n = 0 ∧ cap = 0) (hn : n ≤ cap) (hcap : cap ≤ maxLen) (hr : Rd .i64 w A zs) (hl : zs.length = n) (hs : n ≤ 1000) (hz : In64 zs) :
    Calls Tryz.prog 94 #[.slice A n cap] w fun e w' => e = .returned (.tuple #[.int .i64 (kv zs (((zs.length : Int) - 1) / 2)), .bool (kb zs (((zs.length : Int) - 1) / 2))]) ∧ Below w.heap.size w w' := by
  have HR := Lib.hid hr
  have HZ := Lib.hid hz
  have HL := Lib.hid hl
  have HA := Lib.hid hA
  unfold maxLen at hcap
  by_cases h0 : n = 0
  · have e := kv_no (l := zs) (k := ((zs.length : Int) - 1) / 2) (by omega)
    have E1 := Lib.hid e.1
    have E2 := Lib.hid e.2
    subst h0
    clear e hr hz hl hA
    go_enter Tryz.func94, Tryz.ntmps94
    go_wp2
    go_ret2
    exact ⟨ret_kb E1.out.symm E2.out.symm, Below.refl _ _⟩
  · have hnz : ((n : Int) == 0) = false := by simp; omega
    have e := kv_yes (l := zs) (k := ((zs.length : Int) - 1) / 2) (by omega) (by omega)
    obtain ⟨K, hK⟩ : ∃ K : Nat, ((n : Int) - 1) / 2 = K := ⟨(((n : Int) - 1) / 2).toNat, by omega⟩
    have hKt : Int.tdiv ((n : Int) - 1) 2 = K := by rw [Int.tdiv_eq_ediv_of_nonneg (by omega)]; exact hK
    have hKn : K < n := by omega
    have e1 : kv zs (((zs.length : Int) - 1) / 2) = kth zs K := by rw [e.1, hl, hK]; rfl
    have HK := Lib.hid (kth_get zs K (by omega))
    have E1 := Lib.hid e1
    have E2 := Lib.hid e.2
    clear e e1 hr hz hl hA
    go_enter Tryz.func94, Tryz.ntmps94
    go_wp2_with (go_at_call 99; (with_reducible refine (rsorted_any A n cap zs _ HA.out hn (by unfold maxLen; omega) HR.out HL.out hs HZ.out).mono ?_); rintro e w2 ⟨A2, cap2, rfl, hrd, hc2, hm2, hb2⟩; have hcell := hrd.at HK.out)
    go_ret2
    exact ⟨ret_kb E1.out.symm E2.out.symm, hb2⟩
end Go.Proofs.YtiblpdjehknbcaaGreat.Ord
/- Rows of pieces: a level and an index, two cells each. Printed by wip/gen/pcsrow.py. -/
namespace Go.Proofs.YtiblpdjehknbcaaGreat.Pcs
open Go Go.RowKit Lw
set_option linter.unusedVariables false
/-- The cells of pairs. -/
def flatP (us : List (Int × Int)) : List Value := us.flatMap (fun u => [.int .i64 u.1, .int .u64 u.2])
theorem flatP_len : ∀ us : List (Int × Int), (flatP us).length = 2 * us.length
  | [] => rfl
  | u :: us => by
    have := flatP_len us
    unfold flatP at this ⊢
    simp only [List.flatMap_cons, List.length_append, List.length_cons, List.length_nil, this]
    omega
theorem flatP_next {us : List (Int × Int)} {k : Nat} {u : Int × Int} (h : us[k]? = some u) : flatP (us.take (k + 1)) = flatP (us.take k) ++ [.int .i64 u.1, .int .u64 u.2] := by
  obtain ⟨h1, h2⟩ := List.getElem?_eq_some_iff.1 h
  rw [List.take_succ_eq_append_getElem h1, h2]
  unfold flatP
  simp
theorem flatP_snoc (us : List (Int × Int)) (u : Int × Int) : flatP (us ++ [u]) = flatP us ++ [.int .i64 u.1, .int .u64 u.2] := by
  unfold flatP
  simp
theorem flatP_get : ∀ {us : List (Int × Int)} {k : Nat} {u : Int × Int}, us[k]? = some u → (flatP us)[k * 2]? = some (.int .i64 u.1) ∧ (flatP us)[k * 2 + 1]? = some (.int .u64 u.2)
  | [], k, u, h => by simp at h
  | v :: us, 0, u, h => by
    simp at h
    subst h
    unfold flatP
    simp
  | v :: us, k + 1, u, h => by
    have ih := flatP_get (us := us) (k := k) (u := u) (by simpa using h)
    have e : (k + 1) * 2 = k * 2 + 1 + 1 := by omega
    rw [e]
    unfold flatP at ih ⊢
    simpa using ih
theorem pc_info : (Tryz.prog.info? 61).map (fun i => (i.zero, i.size, i.bytes)) = some (some (.agg #[.int .i64 0, .int .u64 0]), 2, 16) := by kernel_rfl
theorem pcs_u : Tryz.prog.underlying 42 = some (.slice 61) := by kernel_rfl
theorem pc_news {w : World} {B : Nat} {U D : Int} {t : TypeId} {fr : Nat × Nat} (h : w.heap[B]? = some (.cells #[.int .i64 U, .int .u64 D] t fr)) : ∀ j u, ([.int .i64 U, .int .u64 D] : List Value)[j]? = some u → w.cell? ((⟨B, 0, none⟩ : Addr).add j) = some u :=
  World.news_of_block h
theorem pc_one (U D : Int) : ∀ u ∈ ([.int .i64 U, .int .u64 D] : List Value), u.oneCell' = true := by
  intro u hu
  simp at hu
  rcases hu with rfl | rfl <;> rfl
/-- What lies in a row of pairs of one's own. -/
theorem own_pc {w : World} {base : Nat} {e : TypeId} {g n cap : Nat} {us : List (Int × Int)} (h : w.ownsRow base e 2 (.slice (some ⟨g, 0, none⟩) n cap) n (flatP us)) {k : Nat} {u : Int × Int} (hu : us[k]? = some u) :
    w.cell? ((⟨g, 0, none⟩ : Addr).add (k * 2)) = some (.int .i64 u.1) ∧ w.cell? ((⟨g, 0, none⟩ : Addr).add (k * 2 + 1)) = some (.int .u64 u.2) :=
  ⟨h.cells (g := g) rfl _ _ (flatP_get hu).1, h.cells (g := g) rfl _ _ (flatP_get hu).2⟩
structure PcV (w : World) (A : Option Addr) (n c : Nat) (qs : List (Int × Int)) : Prop where
  nil : A = none → n = 0 ∧ c = 0
  nc : n ≤ c
  cm : c ≤ maxLen
  len : qs.length = n
  each : ∀ (i : Nat) q, qs[i]? = some q → ∃ a, A = some a ∧ w.cell? (a.add (i * 2)) = some (.int .i64 (q.1)) ∧ w.cell? (a.add (i * 2 + 1)) = some (.int .u64 (q.2)) ∧ (-9223372036854775808 ≤ (q.1) ∧ (q.1) ≤ 9223372036854775807) ∧ (0 ≤ (q.2) ∧ (q.2) ≤ 18446744073709551615)
theorem PcV.up {w w' : World} {A : Option Addr} {n c : Nat} {qs : List (Int × Int)} (h : PcV w A n c qs) (hb : Below w.heap.size w w') : PcV w' A n c qs :=
  ⟨h.nil, h.nc, h.cm, h.len, fun i q hq => by
    obtain ⟨a, e, h1, h2, h3⟩ := h.each i q hq
    exact ⟨a, e, cell_up h1 hb, cell_up h2 hb, h3⟩⟩
theorem PcV.at {w : World} {A : Option Addr} {n c : Nat} {qs : List (Int × Int)} (h : PcV w A n c qs) {i : Nat} {q : Int × Int} (hq : qs[i]? = some q) : ∃ (a : Addr) (g o : Nat), A = some a ∧ a.add (i * 2) = ⟨g, o, none⟩ ∧ w.cell? ⟨g, o, none⟩ = some (.int .i64 q.1) ∧ w.cell? ⟨g, o + 1, none⟩ = some (.int .u64 q.2) ∧ (-9223372036854775808 ≤ q.1 ∧ q.1 ≤ 9223372036854775807) ∧ (0 ≤ q.2 ∧ q.2 ≤ 18446744073709551615) := by
  obtain ⟨a, e, h1, h2, h3, h4⟩ := h.each i q hq
  rw [← add_add'] at h2
  have hs : (a.add (i * 2)).spot = none := by
    unfold World.cell? at h1
    split at h1
    · split at h1
      · cases h1
      · rename_i hs; simpa using hs
    · cases h1
  obtain ⟨ad, had⟩ : ∃ ad, a.add (i * 2) = ad := ⟨_, rfl⟩
  rw [had] at h1 h2 hs
  obtain ⟨g, o, sp⟩ := ad
  simp only at hs
  subst hs
  rw [Ord.add_at] at h2
  exact ⟨a, g, o, e, had, h1, h2, h3, h4⟩
theorem add_block (a : Addr) (j : Nat) : (a.add j).block = a.block := by
  unfold Addr.add
  split <;> rfl
theorem PcV.keep {w w' : World} {A : Option Addr} {n c : Nat} {qs : List (Int × Int)} {H : Nat → Prop} (h : PcV w A n c qs) (hk : Kept H w w') (hf : ∀ a, A = some a → ¬ H a.block) : PcV w' A n c qs :=
  ⟨h.nil, h.nc, h.cm, h.len, fun i q hq => by
    obtain ⟨a, e, h1, h2, h3⟩ := h.each i q hq
    exact ⟨a, e, hk.cell h1 (by rw [add_block]; exact hf a e), hk.cell h2 (by rw [add_block]; exact hf a e), h3⟩⟩
def pcT (A : Option Addr) (n c : Nat) (us : List (Int × Int)) : Thing where
  I := fun w => PcV w A n c us ∧ ∀ a, A = some a → a.block < w.heap.size
  F := fun k => ∃ a, A = some a ∧ a.block = k
  keep := fun w w' H h hk hf => ⟨h.1.keep hk (fun a e => hf _ ⟨a, e, rfl⟩), fun a e => Nat.lt_of_lt_of_le (h.2 a e) hk.size⟩
  lt := fun w h k hk => by
    obtain ⟨a, e, rfl⟩ := hk
    exact h.2 a e
theorem pcI {w : World} {A : Option Addr} {n c : Nat} {us : List (Int × Int)} (h : (pcT A n c us).I w) : PcV w A n c us := h.1
/-- What a row of pieces of one's own is. -/
theorem pc_own {w : World} {base : Nat} {e : TypeId} {v : Value} {n : Nat} {us : List (Int × Int)} (h : w.ownsRow base e 2 v n (flatP us)) (hl : us.length = n) (hb : ∀ u ∈ us, (-9223372036854775808 ≤ u.1 ∧ u.1 ≤ 9223372036854775807) ∧ (0 ≤ u.2 ∧ u.2 ≤ 18446744073709551615)) :
    ∃ A cap, v = .slice A n cap ∧ (pcT A n cap us).I w ∧ ∀ k, (pcT A n cap us).F k → base ≤ k := by
  have hge := own_ge h
  rcases h.2 with ⟨h1, h2⟩ | ⟨g, cap, cur, h1, h2, h3, h4, h5, h6, h7⟩
  · subst h2
    refine ⟨none, 0, by rw [h1], ⟨⟨fun _ => ⟨rfl, rfl⟩, Nat.le_refl _, by decide, hl, fun i q hq => ?_⟩, (fun a e => by cases e)⟩, (fun k hk => by obtain ⟨a, e, _⟩ := hk; cases e)⟩
    have := (List.getElem?_eq_some_iff.1 hq).1
    omega
  · subst h1
    have hg : g < w.heap.size := own_lt h rfl
    refine ⟨some ⟨g, 0, none⟩, cap, rfl, ⟨⟨(fun e => by cases e), h4, by assumption, hl, fun i q hq => ⟨_, rfl, (own_pc h hq).1, (own_pc h hq).2, hb q (List.mem_of_getElem? hq)⟩⟩, (fun a e => by injection e with e; subst e; exact hg)⟩, fun k hk => ?_⟩
    obtain ⟨a, e, rfl⟩ := hk
    injection e with e
    subst e
    exact hge g rfl
end Go.Proofs.YtiblpdjehknbcaaGreat.Pcs
/- Numbers of 128 bits: values, digits of sixteen bits, signs. -/
namespace Go.Proofs.YtiblpdjehknbcaaGreat.Wid
open Go.RowKit

theorem ret_int {k : IntKind} {a b : Int} (h : a = b) : Ending.returned (.int k a) = .returned (.int k b) := by rw [h]
theorem ret_two {k l : IntKind} {a b c d : Int} (h : a = b) (g : c = d) : Ending.returned (.tuple #[.int k a, .int l c]) = .returned (.tuple #[.int k b, .int l d]) := by rw [h, g]
theorem ret_bool {a b : Bool} (h : a = b) : Ending.returned (.bool a) = .returned (.bool b) := by rw [h]
theorem ret_agg {a b c d : Int} (h : a = b) (g : c = d) : Ending.returned (.agg #[.int .i64 a, .int .u64 c]) = .returned (.agg #[.int .i64 b, .int .u64 d]) := by rw [h, g]
theorem ret_wide {a b c d : Int} {p q : Bool} (h : a = b) (g : c = d) (k : p = q) : Ending.returned (.tuple #[.agg #[.int .i64 a, .int .u64 c], .bool p]) = .returned (.tuple #[.agg #[.int .i64 b, .int .u64 d], .bool q]) := by rw [h, g, k]
theorem ret_int_bool {a b : Int} {p q : Bool} (h : a = b) (k : p = q) : Ending.returned (.tuple #[.int .i64 a, .bool p]) = .returned (.tuple #[.int .i64 b, .bool q]) := by rw [h, k]

/-! ### values -/
/-- The number that a pair is. -/
def vl (p q : Int) : Int := p * 18446744073709551616 + q
def fit (z : Int) : Bool := decide (-170141183460469231731687303715884105728 ≤ z ∧ z < 170141183460469231731687303715884105728)
def fh (z : Int) : Int := if fit z = true then z / 18446744073709551616 else 0
def fl (z : Int) : Int := if fit z = true then z % 18446744073709551616 else 0
def fit64 (z : Int) : Bool := decide (-9223372036854775808 ≤ z ∧ z < 9223372036854775808)
def f64 (z : Int) : Int := if fit64 z = true then z else 0

theorem fit_yes {z : Int} (h0 : -170141183460469231731687303715884105728 ≤ z) (h1 : z < 170141183460469231731687303715884105728) : fit z = true ∧ fh z = z / 18446744073709551616 ∧ fl z = z % 18446744073709551616 := by
  have h : fit z = true := by unfold fit; simp; omega
  exact ⟨h, by unfold fh; rw [if_pos h], by unfold fl; rw [if_pos h]⟩
theorem fit_no {z : Int} (h : ¬ (-170141183460469231731687303715884105728 ≤ z ∧ z < 170141183460469231731687303715884105728)) : fit z = false ∧ fh z = 0 ∧ fl z = 0 := by
  have h : fit z = false := by unfold fit; simp; omega
  exact ⟨h, by unfold fh; rw [if_neg (by simp [h])], by unfold fl; rw [if_neg (by simp [h])]⟩
theorem fit64_yes {z : Int} (h0 : -9223372036854775808 ≤ z) (h1 : z < 9223372036854775808) : fit64 z = true ∧ f64 z = z := by
  have h : fit64 z = true := by unfold fit64; simp; omega
  exact ⟨h, by unfold f64; rw [if_pos h]⟩
theorem fit64_no {z : Int} (h : ¬ (-9223372036854775808 ≤ z ∧ z < 9223372036854775808)) : fit64 z = false ∧ f64 z = 0 := by
  have h : fit64 z = false := by unfold fit64; simp; omega
  exact ⟨h, by unfold f64; rw [if_neg (by simp [h])]⟩
theorem fh_bd (z : Int) : -9223372036854775808 ≤ fh z ∧ fh z ≤ 9223372036854775807 := by
  by_cases h : -170141183460469231731687303715884105728 ≤ z ∧ z < 170141183460469231731687303715884105728
  · rw [(fit_yes h.1 h.2).2.1]; omega
  · rw [(fit_no h).2.1]; omega
theorem fl_bd (z : Int) : 0 ≤ fl z ∧ fl z ≤ 18446744073709551615 := by
  by_cases h : -170141183460469231731687303715884105728 ≤ z ∧ z < 170141183460469231731687303715884105728
  · rw [(fit_yes h.1 h.2).2.2]; omega
  · rw [(fit_no h).2.2]; omega
theorem f64_bd (z : Int) : -9223372036854775808 ≤ f64 z ∧ f64 z ≤ 9223372036854775807 := by
  by_cases h : -9223372036854775808 ≤ z ∧ z < 9223372036854775808
  · rw [(fit64_yes h.1 h.2).2]; omega
  · rw [(fit64_no h).2]; omega
/-- The pair of what fits is that number. -/
theorem vl_fit (z : Int) (h0 : -170141183460469231731687303715884105728 ≤ z) (h1 : z < 170141183460469231731687303715884105728) : vl (fh z) (fl z) = z := by
  rw [(fit_yes h0 h1).2.1, (fit_yes h0 h1).2.2]; unfold vl; omega
theorem fh_vl (p q : Int) (h0 : -9223372036854775808 ≤ p) (h1 : p ≤ 9223372036854775807) (g0 : 0 ≤ q) (g1 : q ≤ 18446744073709551615) : fh (vl p q) = p ∧ fl (vl p q) = q ∧ fit (vl p q) = true := by
  have := fit_yes (z := vl p q) (by unfold vl; omega) (by unfold vl; omega)
  refine ⟨?_, ?_, this.1⟩
  · rw [this.2.1]; unfold vl; omega
  · rw [this.2.2]; unfold vl; omega
theorem vl_bd (p q : Int) (h0 : -9223372036854775808 ≤ p) (h1 : p ≤ 9223372036854775807) (g0 : 0 ≤ q) (g1 : q ≤ 18446744073709551615) : -170141183460469231731687303715884105728 ≤ vl p q ∧ vl p q < 170141183460469231731687303715884105728 := by
  unfold vl; omega
theorem vl_inj {p q r s : Int} (g0 : 0 ≤ q) (g1 : q ≤ 18446744073709551615) (k0 : 0 ≤ s) (k1 : s ≤ 18446744073709551615) (h : vl p q = vl r s) : p = r ∧ q = s := by
  unfold vl at h; omega

/-! ### signs of bits -/
theorem wrap_bv (x : BitVec 64) : IntKind.i64.wrap (x.toNat : Int) = x.toInt := by
  have h := x.isLt
  rw [IntKind.wrap_i64, BitVec.toInt_eq_toNat_cond]
  split <;> omega
theorem bv_neg (x : BitVec 64) : (x.toInt < 0) ↔ x.msb = true := by
  rw [BitVec.msb_eq_toInt]; simp
theorem bv_of (a : Int) (h0 : -9223372036854775808 ≤ a) (h1 : a ≤ 9223372036854775807) : (BitVec.ofInt 64 a).toInt = a := by
  rw [BitVec.toInt_ofInt]; simp [Int.bmod]; omega
theorem xor_i64 (a b : Int) : bits .xor .i64 a b = (BitVec.ofInt 64 a ^^^ BitVec.ofInt 64 b).toInt := wrap_bv _
theorem and_i64 (a b : Int) : bits .and .i64 a b = (BitVec.ofInt 64 a &&& BitVec.ofInt 64 b).toInt := wrap_bv _
theorem bv_bd (x : BitVec 64) : -9223372036854775808 ≤ x.toInt ∧ x.toInt ≤ 9223372036854775807 := by
  have := BitVec.toInt_lt (x := x); have := BitVec.le_toInt x; omega
theorem sgn (a b c d : Int) (a0 : -9223372036854775808 ≤ a) (a1 : a ≤ 9223372036854775807) (b0 : -9223372036854775808 ≤ b) (b1 : b ≤ 9223372036854775807)
    (c0 : -9223372036854775808 ≤ c) (c1 : c ≤ 9223372036854775807) (d0 : -9223372036854775808 ≤ d) (d1 : d ≤ 9223372036854775807) :
    (bits .and .i64 (bits .xor .i64 a b) (bits .xor .i64 c d) < 0) ↔ ((a < 0 ∧ 0 ≤ b ∨ 0 ≤ a ∧ b < 0) ∧ (c < 0 ∧ 0 ≤ d ∨ 0 ≤ c ∧ d < 0)) := by
  rw [and_i64, bv_neg, BitVec.msb_and, Bool.and_eq_true, xor_i64, xor_i64, ← bv_neg, ← bv_neg, bv_of _ (bv_bd _).1 (bv_bd _).2, bv_of _ (bv_bd _).1 (bv_bd _).2, bv_neg, bv_neg, BitVec.msb_xor, BitVec.msb_xor]
  have ea := bv_neg (BitVec.ofInt 64 a)
  have eb := bv_neg (BitVec.ofInt 64 b)
  have ec := bv_neg (BitVec.ofInt 64 c)
  have ed := bv_neg (BitVec.ofInt 64 d)
  rw [bv_of a a0 a1] at ea
  rw [bv_of b b0 b1] at eb
  rw [bv_of c c0 c1] at ec
  rw [bv_of d d0 d1] at ed
  generalize (BitVec.ofInt 64 a).msb = x at *
  generalize (BitVec.ofInt 64 b).msb = y at *
  generalize (BitVec.ofInt 64 c).msb = z at *
  generalize (BitVec.ofInt 64 d).msb = u at *
  cases x <;> cases y <;> cases z <;> cases u <;> simp at * <;> omega

/-! ### digits of sixteen bits -/
def dg (x : Int) (i : Nat) : Int := x / (65536 ^ i) % 65536
def cr (x y : Int) (i : Nat) : Int := (x % (65536 ^ i) + y % (65536 ^ i)) / (65536 ^ i)
theorem b_pos (i : Nat) : (0 : Int) < 65536 ^ i := Int.pow_pos (by decide)
theorem dg_bd (x : Int) (i : Nat) : 0 ≤ dg x i ∧ dg x i ≤ 65535 := by unfold dg; omega
theorem cr_0 (x y : Int) : cr x y 0 = 0 := by unfold cr; omega
theorem cr_bd (x y : Int) (i : Nat) : 0 ≤ cr x y i ∧ cr x y i ≤ 1 := by
  have h := b_pos i
  have h1 := Int.emod_nonneg x (Int.ne_of_gt h)
  have h2 := Int.emod_nonneg y (Int.ne_of_gt h)
  have h3 := Int.emod_lt_of_pos x h
  have h4 := Int.emod_lt_of_pos y h
  unfold cr
  refine ⟨Int.ediv_nonneg (by omega) (by omega), ?_⟩
  have : (x % 65536 ^ i + y % 65536 ^ i) / 65536 ^ i < 2 := Int.ediv_lt_of_lt_mul h (by omega)
  omega
theorem cr_split (x y : Int) (i : Nat) : (x + y) / 65536 ^ i = x / 65536 ^ i + y / 65536 ^ i + cr x y i := by
  have h := b_pos i
  have e : x + y = (x % 65536 ^ i + y % 65536 ^ i) + 65536 ^ i * (x / 65536 ^ i + y / 65536 ^ i) := by
    have h1 := Int.emod_add_mul_ediv x (65536 ^ i)
    have h2 := Int.emod_add_mul_ediv y (65536 ^ i)
    rw [Int.mul_add]; omega
  unfold cr
  rw [e, Int.add_mul_ediv_left _ _ (Int.ne_of_gt h)]
  omega
theorem plus_dg (x y : Int) (i : Nat) : (dg x i + dg y i + cr x y i) % 65536 = dg (x + y) i := by
  unfold dg; rw [cr_split]; omega
theorem mod_succ (x : Int) (i : Nat) : x % 65536 ^ (i + 1) = 65536 ^ i * dg x i + x % 65536 ^ i := by
  have h := b_pos i
  have e : (65536 : Int) ^ (i + 1) = 65536 ^ i * 65536 := Int.pow_succ _ _
  unfold dg
  have h1 := Int.emod_add_mul_ediv x (65536 ^ i)
  have h2 := Int.emod_add_mul_ediv (x / 65536 ^ i) 65536
  have h3 := Int.emod_nonneg x (Int.ne_of_gt h)
  have h4 := Int.emod_lt_of_pos x h
  have h5 := Int.emod_nonneg (x / 65536 ^ i) (b := 65536) (by decide)
  have h6 := Int.emod_lt_of_pos (x / 65536 ^ i) (b := 65536) (by decide)
  generalize (65536 : Int) ^ i = B at *
  generalize x / B = q at *
  generalize x % B = r at *
  rw [e]
  have hx : x = (B * (q % 65536) + r) + B * 65536 * (q / 65536) := by
    have : B * 65536 * (q / 65536) = B * (65536 * (q / 65536)) := Int.mul_assoc _ _ _
    rw [this, ← h1]
    have : B * q = B * (q % 65536) + B * (65536 * (q / 65536)) := by rw [← Int.mul_add]; rw [h2]
    omega
  rw [hx, Int.add_mul_emod_self_left]
  have hlt : B * (q % 65536) ≤ B * 65535 := Int.mul_le_mul_of_nonneg_left (by omega) (by omega)
  have hge : 0 ≤ B * (q % 65536) := Int.mul_nonneg (by omega) h5
  exact Int.emod_eq_of_lt (by omega) (by omega)
theorem plus_cr (x y : Int) (i : Nat) : (dg x i + dg y i + cr x y i) / 65536 = cr x y (i + 1) := by
  have h := b_pos i
  have e : (65536 : Int) ^ (i + 1) = 65536 ^ i * 65536 := Int.pow_succ _ _
  unfold cr
  rw [mod_succ, mod_succ, e]
  generalize hB : (65536 : Int) ^ i = B at *
  have e2 : B * dg x i + x % B + (B * dg y i + y % B) = (x % B + y % B) + B * (dg x i + dg y i) := by rw [Int.mul_add]; omega
  rw [e2, ← Int.ediv_ediv_of_nonneg (Int.le_of_lt h), Int.add_mul_ediv_left _ _ (Int.ne_of_gt h)]
  congr 1; omega
end Go.Proofs.YtiblpdjehknbcaaGreat.Wid
/- Walks of layer 2, one function each: Base. -/
namespace Go.Proofs.YtiblpdjehknbcaaGreat.Wid
open Go.RowKit
set_option linter.unusedVariables false

theorem of_vals (n : Int) (h0 : -9223372036854775808 ≤ n) (h1 : n ≤ 9223372036854775807) : n / 9223372036854775808 = fh n ∧ IntKind.u64.wrap n = fl n := by
  rw [(fit_yes (z := n) (by omega) (by omega)).2.1, (fit_yes (z := n) (by omega) (by omega)).2.2, IntKind.wrap_u64]; omega
theorem u64_bd (x : Int) : 0 ≤ IntKind.u64.wrap x ∧ IntKind.u64.wrap x ≤ 18446744073709551615 := by rw [IntKind.wrap_u64]; omega
theorem hi_bd (x : Int) : -9223372036854775808 ≤ wrap64 x ∧ wrap64 x ≤ 9223372036854775807 ∧ (wrap64 x - x) % 18446744073709551616 = 0 := by unfold wrap64; omega
theorem add_far (p q r s : Int) (p0 : -9223372036854775808 ≤ p) (p1 : p ≤ 9223372036854775807) (q0 : 0 ≤ q) (q1 : q ≤ 18446744073709551615)
    (r0 : -9223372036854775808 ≤ r) (r1 : r ≤ 9223372036854775807) (s0 : 0 ≤ s) (s1 : s ≤ 18446744073709551615)
    (h : bits .and .i64 (bits .xor .i64 p (wrap64 ((IntKind.u64.wrap p + IntKind.u64.wrap r + (q + s) / 18446744073709551616) % 18446744073709551616))) (bits .xor .i64 r (wrap64 ((IntKind.u64.wrap p + IntKind.u64.wrap r + (q + s) / 18446744073709551616) % 18446744073709551616))) < 0) :
    0 = fh (vl p q + vl r s) ∧ 0 = fl (vl p q + vl r s) ∧ false = fit (vl p q + vl r s) := by
  have hh := hi_bd ((IntKind.u64.wrap p + IntKind.u64.wrap r + (q + s) / 18446744073709551616) % 18446744073709551616)
  rw [sgn _ _ _ _ p0 p1 hh.1 hh.2.1 r0 r1 hh.1 hh.2.1] at h
  generalize wrap64 ((IntKind.u64.wrap p + IntKind.u64.wrap r + (q + s) / 18446744073709551616) % 18446744073709551616) = H at *
  rw [IntKind.wrap_u64, IntKind.wrap_u64] at hh
  have := fit_no (z := vl p q + vl r s) (by unfold vl; omega)
  exact ⟨this.2.1.symm, this.2.2.symm, this.1.symm⟩
theorem add_near (p q r s : Int) (p0 : -9223372036854775808 ≤ p) (p1 : p ≤ 9223372036854775807) (q0 : 0 ≤ q) (q1 : q ≤ 18446744073709551615)
    (r0 : -9223372036854775808 ≤ r) (r1 : r ≤ 9223372036854775807) (s0 : 0 ≤ s) (s1 : s ≤ 18446744073709551615)
    (h : 0 ≤ bits .and .i64 (bits .xor .i64 p (wrap64 ((IntKind.u64.wrap p + IntKind.u64.wrap r + (q + s) / 18446744073709551616) % 18446744073709551616))) (bits .xor .i64 r (wrap64 ((IntKind.u64.wrap p + IntKind.u64.wrap r + (q + s) / 18446744073709551616) % 18446744073709551616)))) :
    wrap64 ((IntKind.u64.wrap p + IntKind.u64.wrap r + (q + s) / 18446744073709551616) % 18446744073709551616) = fh (vl p q + vl r s) ∧ (q + s) % 18446744073709551616 = fl (vl p q + vl r s) ∧ true = fit (vl p q + vl r s) := by
  have hh := hi_bd ((IntKind.u64.wrap p + IntKind.u64.wrap r + (q + s) / 18446744073709551616) % 18446744073709551616)
  have hx := sgn p _ r _ p0 p1 hh.1 hh.2.1 r0 r1 hh.1 hh.2.1
  generalize wrap64 ((IntKind.u64.wrap p + IntKind.u64.wrap r + (q + s) / 18446744073709551616) % 18446744073709551616) = H at *
  rw [IntKind.wrap_u64, IntKind.wrap_u64] at hh
  generalize bits .and .i64 (bits .xor .i64 p H) (bits .xor .i64 r H) = X at *
  have := fit_yes (z := vl p q + vl r s) (by unfold vl; omega) (by unfold vl; omega)
  rw [this.1, this.2.1, this.2.2]; unfold vl
  exact ⟨by omega, by omega, rfl⟩
theorem sub_far (p q r s : Int) (p0 : -9223372036854775808 ≤ p) (p1 : p ≤ 9223372036854775807) (q0 : 0 ≤ q) (q1 : q ≤ 18446744073709551615)
    (r0 : -9223372036854775808 ≤ r) (r1 : r ≤ 9223372036854775807) (s0 : 0 ≤ s) (s1 : s ≤ 18446744073709551615)
    (h : bits .and .i64 (bits .xor .i64 p r) (bits .xor .i64 p (wrap64 ((IntKind.u64.wrap p - IntKind.u64.wrap r + (q - s) / 18446744073709551616) % 18446744073709551616))) < 0) :
    0 = fh (vl p q - vl r s) ∧ 0 = fl (vl p q - vl r s) ∧ false = fit (vl p q - vl r s) := by
  have hh := hi_bd ((IntKind.u64.wrap p - IntKind.u64.wrap r + (q - s) / 18446744073709551616) % 18446744073709551616)
  rw [sgn _ _ _ _ p0 p1 r0 r1 p0 p1 hh.1 hh.2.1] at h
  generalize wrap64 ((IntKind.u64.wrap p - IntKind.u64.wrap r + (q - s) / 18446744073709551616) % 18446744073709551616) = H at *
  rw [IntKind.wrap_u64, IntKind.wrap_u64] at hh
  have := fit_no (z := vl p q - vl r s) (by unfold vl; omega)
  exact ⟨this.2.1.symm, this.2.2.symm, this.1.symm⟩
theorem sub_near (p q r s : Int) (p0 : -9223372036854775808 ≤ p) (p1 : p ≤ 9223372036854775807) (q0 : 0 ≤ q) (q1 : q ≤ 18446744073709551615)
    (r0 : -9223372036854775808 ≤ r) (r1 : r ≤ 9223372036854775807) (s0 : 0 ≤ s) (s1 : s ≤ 18446744073709551615)
    (h : 0 ≤ bits .and .i64 (bits .xor .i64 p r) (bits .xor .i64 p (wrap64 ((IntKind.u64.wrap p - IntKind.u64.wrap r + (q - s) / 18446744073709551616) % 18446744073709551616)))) :
    wrap64 ((IntKind.u64.wrap p - IntKind.u64.wrap r + (q - s) / 18446744073709551616) % 18446744073709551616) = fh (vl p q - vl r s) ∧ (q - s) % 18446744073709551616 = fl (vl p q - vl r s) ∧ true = fit (vl p q - vl r s) := by
  have hh := hi_bd ((IntKind.u64.wrap p - IntKind.u64.wrap r + (q - s) / 18446744073709551616) % 18446744073709551616)
  have hx := sgn p r p _ p0 p1 r0 r1 p0 p1 hh.1 hh.2.1
  generalize wrap64 ((IntKind.u64.wrap p - IntKind.u64.wrap r + (q - s) / 18446744073709551616) % 18446744073709551616) = H at *
  rw [IntKind.wrap_u64, IntKind.wrap_u64] at hh
  generalize bits .and .i64 (bits .xor .i64 p r) (bits .xor .i64 p H) = X at *
  have := fit_yes (z := vl p q - vl r s) (by unfold vl; omega) (by unfold vl; omega)
  rw [this.1, this.2.1, this.2.2]; unfold vl
  exact ⟨by omega, by omega, rfl⟩

theorem below_box {w w' : World} {o : Obj} (h : Below (w.heap.size + 1) (w.alloc o) w') : Below w.heap.size w w' :=
  ((Below.refl _ _).alloc (Nat.le_refl _) _).trans (h.mono (by omega))
theorem below_call {B : Nat} {W0 wa w1 : World} (h : Below B W0 wa) (hb : Below wa.heap.size wa w1) (hB : B ≤ W0.heap.size) : Below B W0 w1 :=
  h.trans (hb.mono (Nat.le_trans hB h.size))
theorem int_vals (p q : Int) (p0 : -9223372036854775808 ≤ p) (p1 : p ≤ 9223372036854775807) (q0 : 0 ≤ q) (q1 : q ≤ 18446744073709551615) :
    (fh (wrap64 q) = p ∧ fl (wrap64 q) = q → fit64 (vl p q) = true ∧ f64 (vl p q) = wrap64 q) ∧ (¬ (fh (wrap64 q) = p ∧ fl (wrap64 q) = q) → fit64 (vl p q) = false ∧ f64 (vl p q) = 0) := by
  have hh := hi_bd q
  have hf := fit_yes (z := wrap64 q) (by omega) (by omega)
  rw [hf.2.1, hf.2.2]
  generalize wrap64 q = n at *
  constructor
  · intro h
    have := fit64_yes (z := vl p q) (by unfold vl; omega) (by unfold vl; omega)
    refine ⟨this.1, ?_⟩
    rw [this.2]; unfold vl; omega
  · intro h
    exact fit64_no (by unfold vl; omega)
theorem plus_vals (a b : Int) (a0 : -9223372036854775808 ≤ a) (a1 : a ≤ 9223372036854775807) (b0 : -9223372036854775808 ≤ b) (b1 : b ≤ 9223372036854775807) :
    vl (fh (vl (fh a) (fl a) + vl (fh b) (fl b))) (fl (vl (fh a) (fl a) + vl (fh b) (fl b))) = a + b ∧ vl (fh (vl (fh a) (fl a) - vl (fh b) (fl b))) (fl (vl (fh a) (fl a) - vl (fh b) (fl b))) = a - b := by
  rw [vl_fit a (by omega) (by omega), vl_fit b (by omega) (by omega), vl_fit _ (by omega) (by omega), vl_fit _ (by omega) (by omega)]
  exact ⟨rfl, rfl⟩
theorem below_alloc {w w' : World} (h : Below w.heap.size w w') (o : Obj) : Below w.heap.size w (w'.alloc o) := h.alloc h.size o
theorem prod_i64 (a b : Int) (a0 : -9223372036854775808 ≤ a) (a1 : a ≤ 9223372036854775807) (b0 : -9223372036854775808 ≤ b) (b1 : b ≤ 9223372036854775807) :
    -85070591730234615865843651857942052864 ≤ a * b ∧ a * b ≤ 85070591730234615865843651857942052864 := by
  have h1 : a.natAbs * b.natAbs ≤ 9223372036854775808 * 9223372036854775808 := Nat.mul_le_mul (by omega) (by omega)
  have h2 := Int.natAbs_mul a b
  omega
theorem times_nn (a b : Int) (a0 : -9223372036854775808 ≤ a) (a1 : a < 0) (b0 : -9223372036854775808 ≤ b) (b1 : b < 0) :
    wrap64 (wrap64 (wrap64 (IntKind.u64.wrap a * IntKind.u64.wrap b / 18446744073709551616) - b) - a) = fh (a * b) ∧ IntKind.u64.wrap a * IntKind.u64.wrap b % 18446744073709551616 = fl (a * b) := by
  have hp := prod_i64 a b a0 (by omega) b0 (by omega)
  have hf := fit_yes (z := a * b) (by omega) (by omega)
  rw [hf.2.1, hf.2.2, IntKind.wrap_u64, IntKind.wrap_u64]
  have ea : a % 18446744073709551616 = a + 18446744073709551616 := by omega
  have eb : b % 18446744073709551616 = b + 18446744073709551616 := by omega
  have ep : (a + 18446744073709551616) * (b + 18446744073709551616) = a * b + 18446744073709551616 * a + 18446744073709551616 * b + 18446744073709551616 * 18446744073709551616 := by grind
  rw [ea, eb, ep]
  generalize a * b = P at *
  unfold wrap64; omega
theorem times_np (a b : Int) (a0 : -9223372036854775808 ≤ a) (a1 : a < 0) (b0 : 0 ≤ b) (b1 : b ≤ 9223372036854775807) :
    wrap64 (wrap64 (IntKind.u64.wrap a * b / 18446744073709551616) - b) = fh (a * b) ∧ IntKind.u64.wrap a * b % 18446744073709551616 = fl (a * b) := by
  have hp := prod_i64 a b a0 (by omega) (by omega) b1
  have hf := fit_yes (z := a * b) (by omega) (by omega)
  rw [hf.2.1, hf.2.2, IntKind.wrap_u64]
  have ea : a % 18446744073709551616 = a + 18446744073709551616 := by omega
  have ep : (a + 18446744073709551616) * b = a * b + 18446744073709551616 * b := by grind
  rw [ea, ep]
  generalize a * b = P at *
  unfold wrap64; omega
theorem times_pn (a b : Int) (a0 : 0 ≤ a) (a1 : a ≤ 9223372036854775807) (b0 : -9223372036854775808 ≤ b) (b1 : b < 0) :
    wrap64 (wrap64 (a * IntKind.u64.wrap b / 18446744073709551616) - a) = fh (a * b) ∧ a * IntKind.u64.wrap b % 18446744073709551616 = fl (a * b) := by
  have := times_np b a b0 b1 a0 a1
  rw [Int.mul_comm a (IntKind.u64.wrap b), Int.mul_comm a b]; exact this
theorem times_pp (a b : Int) (a0 : 0 ≤ a) (a1 : a ≤ 9223372036854775807) (b0 : 0 ≤ b) (b1 : b ≤ 9223372036854775807) :
    wrap64 (a * b / 18446744073709551616) = fh (a * b) ∧ a * b % 18446744073709551616 = fl (a * b) := by
  have hp := prod_i64 a b (by omega) a1 (by omega) b1
  have h0 : 0 ≤ a * b := Int.mul_nonneg a0 b0
  have hf := fit_yes (z := a * b) (by omega) (by omega)
  rw [hf.2.1, hf.2.2]
  generalize a * b = P at *
  unfold wrap64; omega
end Go.Proofs.YtiblpdjehknbcaaGreat.Wid
/- Walks of layer 2, one function each: Add. -/
namespace Go.Proofs.YtiblpdjehknbcaaGreat.Wid
open Go.RowKit
set_option linter.unusedVariables false

theorem run_add64 (x y c : Int) (w : World) (x0 : 0 ≤ x) (y0 : 0 ≤ y) (c0 : 0 ≤ c) (c1 : c ≤ 1) :
    (callFunc 133 #[.int .u64 x, .int .u64 y, .int .u64 c]).run Tryz.prog w =
      .ok (.value (.tuple #[.int .u64 ((x + y + c) % 18446744073709551616), .int .u64 ((x + y + c) / 18446744073709551616)])) w := by
  rw [run_callFunc_extern Tryz.func133 (by kernel_rfl) (by kernel_rfl) (by kernel_rfl) (e := add64Entry) (by kernel_rfl), Go.run_add64 x y c x0 y0 c0 c1]
  rfl
theorem run_add64_0 (x y : Int) (w : World) (x0 : 0 ≤ x) (y0 : 0 ≤ y) :
    (callFunc 133 #[.int .u64 x, .int .u64 y, .int .u64 0]).run Tryz.prog w =
      .ok (.value (.tuple #[.int .u64 ((x + y) % 18446744073709551616), .int .u64 ((x + y) / 18446744073709551616)])) w := by
  rw [run_add64 x y 0 w x0 y0 (by omega) (by omega), Int.add_zero]
theorem add_any (p q r s : Int) (w : World) (p0 : -9223372036854775808 ≤ p) (p1 : p ≤ 9223372036854775807) (q0 : 0 ≤ q) (q1 : q ≤ 18446744073709551615)
    (r0 : -9223372036854775808 ≤ r) (r1 : r ≤ 9223372036854775807) (s0 : 0 ≤ s) (s1 : s ≤ 18446744073709551615) :
    Calls Tryz.prog 132 #[.agg #[.int .i64 p, .int .u64 q], .agg #[.int .i64 r, .int .u64 s]] w fun e w' => e = .returned (.tuple #[.agg #[.int .i64 (fh (vl p q + vl r s)), .int .u64 (fl (vl p q + vl r s))], .bool (fit (vl p q + vl r s))]) ∧ Below w.heap.size w w' := by
  have k0 : 0 ≤ (q + s) / 18446744073709551616 := by omega
  have k1 : (q + s) / 18446744073709551616 ≤ 1 := by omega
  go_enter Tryz.func132, Tryz.ntmps132
  go_wp2_with (first | simp only [run_add64_0 q s _ q0 s0] | simp only [run_add64 _ _ _ _ (u64_bd p).1 (u64_bd r).1 k0 k1])
  · have h := add_far p q r s p0 p1 q0 q1 r0 r1 s0 s1 (by assumption)
    go_returns
    exact ⟨ret_wide h.1 h.2.1 h.2.2, by go_grown⟩
  · have h := add_near p q r s p0 p1 q0 q1 r0 r1 s0 s1 (by assumption)
    go_returns
    exact ⟨ret_wide h.1 h.2.1 h.2.2, by go_grown⟩
end Go.Proofs.YtiblpdjehknbcaaGreat.Wid
/- Digits of sixteen bits: what the walks write, told as digits. Printed by wip/gen/wid.py. -/
namespace Go.Proofs.YtiblpdjehknbcaaGreat.Wid
open Go.RowKit
theorem dg_0 (z : Int) : dg z 0 = z / 1 % 65536 := by unfold dg; rw [show (65536 : Int) ^ 0 = 1 from by decide]
theorem dg_1 (z : Int) : dg z 1 = z / 65536 % 65536 := by unfold dg; rw [show (65536 : Int) ^ 1 = 65536 from by decide]
theorem dg_2 (z : Int) : dg z 2 = z / 4294967296 % 65536 := by unfold dg; rw [show (65536 : Int) ^ 2 = 4294967296 from by decide]
theorem dg_3 (z : Int) : dg z 3 = z / 281474976710656 % 65536 := by unfold dg; rw [show (65536 : Int) ^ 3 = 281474976710656 from by decide]
theorem dg_4 (z : Int) : dg z 4 = z / 18446744073709551616 % 65536 := by unfold dg; rw [show (65536 : Int) ^ 4 = 18446744073709551616 from by decide]
theorem dg_5 (z : Int) : dg z 5 = z / 1208925819614629174706176 % 65536 := by unfold dg; rw [show (65536 : Int) ^ 5 = 1208925819614629174706176 from by decide]
theorem dg_6 (z : Int) : dg z 6 = z / 79228162514264337593543950336 % 65536 := by unfold dg; rw [show (65536 : Int) ^ 6 = 79228162514264337593543950336 from by decide]
theorem dg_7 (z : Int) : dg z 7 = z / 5192296858534827628530496329220096 % 65536 := by unfold dg; rw [show (65536 : Int) ^ 7 = 5192296858534827628530496329220096 from by decide]
theorem dg_8 (z : Int) : dg z 8 = z / 340282366920938463463374607431768211456 % 65536 := by unfold dg; rw [show (65536 : Int) ^ 8 = 340282366920938463463374607431768211456 from by decide]
theorem dg_9 (z : Int) : dg z 9 = z / 22300745198530623141535718272648361505980416 % 65536 := by unfold dg; rw [show (65536 : Int) ^ 9 = 22300745198530623141535718272648361505980416 from by decide]
def dl (z : Int) : List Int := [dg z 0, dg z 1, dg z 2, dg z 3, dg z 4, dg z 5, dg z 6, dg z 7, dg z 8, dg z 9]
theorem and16 (x : Int) (h0 : 0 ≤ x) (h1 : x ≤ 18446744073709551615) : wrap64 (bits .and .u64 x 65535) = x % 65536 := by
  rw [u64_and x 65535 h0 (by omega) (by omega) (by omega)]
  have h := Nat.and_two_pow_sub_one_eq_mod x.toNat 16
  have e : ((65535 : Int).toNat) = 2 ^ 16 - 1 := by decide
  rw [e, h]; unfold wrap64; omega
theorem ret10 {a0 a1 a2 a3 a4 a5 a6 a7 a8 a9 z : Int} (h : [a0, a1, a2, a3, a4, a5, a6, a7, a8, a9] = dl z) : Ending.returned (.agg #[.int .i64 (a0), .int .i64 (a1), .int .i64 (a2), .int .i64 (a3), .int .i64 (a4), .int .i64 (a5), .int .i64 (a6), .int .i64 (a7), .int .i64 (a8), .int .i64 (a9)]) = .returned (.agg #[.int .i64 (dg z 0), .int .i64 (dg z 1), .int .i64 (dg z 2), .int .i64 (dg z 3), .int .i64 (dg z 4), .int .i64 (dg z 5), .int .i64 (dg z 6), .int .i64 (dg z 7), .int .i64 (dg z 8), .int .i64 (dg z 9)]) := by
  simp only [dl, List.cons.injEq, and_true] at h
  obtain ⟨rfl, rfl, rfl, rfl, rfl, rfl, rfl, rfl, rfl, rfl⟩ := h
  rfl
theorem of_dl_neg (p q : Int) (p0 : -9223372036854775808 ≤ p) (p1 : p ≤ 9223372036854775807) (q0 : 0 ≤ q) (q1 : q ≤ 18446744073709551615) (h : p < 0) : [wrap64 (bits .and .u64 (q) 65535), wrap64 (bits .and .u64 (q / 65536) 65535), wrap64 (bits .and .u64 (q / 4294967296) 65535), wrap64 (bits .and .u64 (q / 281474976710656) 65535), wrap64 (bits .and .u64 (IntKind.u64.wrap p) 65535), wrap64 (bits .and .u64 (IntKind.u64.wrap p / 65536) 65535), wrap64 (bits .and .u64 (IntKind.u64.wrap p / 4294967296) 65535), wrap64 (bits .and .u64 (IntKind.u64.wrap p / 281474976710656) 65535), 65535, 65535] = dl (vl p q) := by
  simp only [dl, List.cons.injEq, and_true]
  refine ⟨?_, ?_, ?_, ?_, ?_, ?_, ?_, ?_, ?_, ?_⟩
  all_goals simp only [dg_0, dg_1, dg_2, dg_3, dg_4, dg_5, dg_6, dg_7, dg_8, dg_9]
  · rw [and16 _ (by omega) (by omega)]; unfold vl; omega
  · rw [and16 _ (by omega) (by omega)]; unfold vl; omega
  · rw [and16 _ (by omega) (by omega)]; unfold vl; omega
  · rw [and16 _ (by omega) (by omega)]; unfold vl; omega
  · rw [IntKind.wrap_u64]; rw [and16 _ (by omega) (by omega)]; unfold vl; omega
  · rw [IntKind.wrap_u64]; rw [and16 _ (by omega) (by omega)]; unfold vl; omega
  · rw [IntKind.wrap_u64]; rw [and16 _ (by omega) (by omega)]; unfold vl; omega
  · rw [IntKind.wrap_u64]; rw [and16 _ (by omega) (by omega)]; unfold vl; omega
  · unfold vl; omega
  · unfold vl; omega
theorem of_dl_pos (p q : Int) (p0 : -9223372036854775808 ≤ p) (p1 : p ≤ 9223372036854775807) (q0 : 0 ≤ q) (q1 : q ≤ 18446744073709551615) (h : 0 ≤ p) : [wrap64 (bits .and .u64 (q) 65535), wrap64 (bits .and .u64 (q / 65536) 65535), wrap64 (bits .and .u64 (q / 4294967296) 65535), wrap64 (bits .and .u64 (q / 281474976710656) 65535), wrap64 (bits .and .u64 (p) 65535), wrap64 (bits .and .u64 (p / 65536) 65535), wrap64 (bits .and .u64 (p / 4294967296) 65535), wrap64 (bits .and .u64 (p / 281474976710656) 65535), 0, 0] = dl (vl p q) := by
  simp only [dl, List.cons.injEq, and_true]
  refine ⟨?_, ?_, ?_, ?_, ?_, ?_, ?_, ?_, ?_, ?_⟩
  all_goals simp only [dg_0, dg_1, dg_2, dg_3, dg_4, dg_5, dg_6, dg_7, dg_8, dg_9]
  · rw [and16 _ (by omega) (by omega)]; unfold vl; omega
  · rw [and16 _ (by omega) (by omega)]; unfold vl; omega
  · rw [and16 _ (by omega) (by omega)]; unfold vl; omega
  · rw [and16 _ (by omega) (by omega)]; unfold vl; omega
  · rw [and16 _ (by omega) (by omega)]; unfold vl; omega
  · rw [and16 _ (by omega) (by omega)]; unfold vl; omega
  · rw [and16 _ (by omega) (by omega)]; unfold vl; omega
  · rw [and16 _ (by omega) (by omega)]; unfold vl; omega
  · unfold vl; omega
  · unfold vl; omega
theorem ofint_dl_neg (n : Int) (n0 : -9223372036854775808 ≤ n) (n1 : n ≤ 9223372036854775807) (h : n < 0) : [wrap64 (bits .and .u64 (IntKind.u64.wrap n) 65535), wrap64 (bits .and .u64 (IntKind.u64.wrap n / 65536) 65535), wrap64 (bits .and .u64 (IntKind.u64.wrap n / 4294967296) 65535), wrap64 (bits .and .u64 (IntKind.u64.wrap n / 281474976710656) 65535), 65535, 65535, 65535, 65535, 65535, 65535] = dl (n) := by
  simp only [dl, List.cons.injEq, and_true]
  refine ⟨?_, ?_, ?_, ?_, ?_, ?_, ?_, ?_, ?_, ?_⟩
  all_goals simp only [dg_0, dg_1, dg_2, dg_3, dg_4, dg_5, dg_6, dg_7, dg_8, dg_9]
  · rw [IntKind.wrap_u64]; rw [and16 _ (by omega) (by omega)]; all_goals omega
  · rw [IntKind.wrap_u64]; rw [and16 _ (by omega) (by omega)]; all_goals omega
  · rw [IntKind.wrap_u64]; rw [and16 _ (by omega) (by omega)]; all_goals omega
  · rw [IntKind.wrap_u64]; rw [and16 _ (by omega) (by omega)]; all_goals omega
  · omega
  · omega
  · omega
  · omega
  · omega
  · omega
theorem ofint_dl_pos (n : Int) (n0 : -9223372036854775808 ≤ n) (n1 : n ≤ 9223372036854775807) (h : 0 ≤ n) : [wrap64 (bits .and .u64 (n) 65535), wrap64 (bits .and .u64 (n / 65536) 65535), wrap64 (bits .and .u64 (n / 4294967296) 65535), wrap64 (bits .and .u64 (n / 281474976710656) 65535), 0, 0, 0, 0, 0, 0] = dl (n) := by
  simp only [dl, List.cons.injEq, and_true]
  refine ⟨?_, ?_, ?_, ?_, ?_, ?_, ?_, ?_, ?_, ?_⟩
  all_goals simp only [dg_0, dg_1, dg_2, dg_3, dg_4, dg_5, dg_6, dg_7, dg_8, dg_9]
  · rw [and16 _ (by omega) (by omega)]; all_goals omega
  · rw [and16 _ (by omega) (by omega)]; all_goals omega
  · rw [and16 _ (by omega) (by omega)]; all_goals omega
  · rw [and16 _ (by omega) (by omega)]; all_goals omega
  · omega
  · omega
  · omega
  · omega
  · omega
  · omega
end Go.Proofs.YtiblpdjehknbcaaGreat.Wid
/- Arrays of ten numbers held against each other; halves put together. Printed by wip/gen/wid2.py. -/
namespace Go.Proofs.YtiblpdjehknbcaaGreat.Wid
open Go.RowKit
theorem bcell {W w1 : World} (hb : Below W.heap.size W w1) : (∀ b o, b < W.heap.size → w1.cell? ⟨b, o, none⟩ = W.cell? ⟨b, o, none⟩) ∧ (∀ b o, b < W.heap.size → w1.frozen? ⟨b, o, none⟩ = W.frozen? ⟨b, o, none⟩) :=
  ⟨fun b o h => hb.cell (p := ⟨b, o, none⟩) h, fun b o h => hb.frozen (p := ⟨b, o, none⟩) h⟩
theorem cell_lt {w : World} {a : Addr} {v : Value} (h : w.cell? a = some v) : a.block < w.heap.size := by
  rcases Nat.lt_or_ge a.block w.heap.size with h1 | h1
  · exact h1
  · have : w.heap[a.block]? = none := by simp [h1]
    simp [World.cell?, this] at h
theorem range_call {wa w1 : World} {b o : Nat} {cs : List Value} (hr : wa.rangeAt b o cs) (hb : Below wa.heap.size wa w1) : w1.rangeAt b o cs := fun j v hj => by
  have h := hr j v hj
  rw [hb.cell (by have := cell_lt h; simpa using this)]; exact h
theorem range_box {w w' : World} {C : List Value} {t : TypeId} (h : Below (w.heap.size + 1) (w.alloc (.cells C.toArray t)) w') : w'.rangeAt w.heap.size 0 C := fun j v hj => by
  have e : w'.heap[w.heap.size]? = some (.cells C.toArray t) := by
    rw [h.block _ (by omega)]; exact (Go.MapKept.heap_alloc w _).1
  have := World.rangeAt_of_block e 0 C.length
  exact this j v (by simpa using hj)
theorem i64w_bd (x : Int) : -9223372036854775808 ≤ IntKind.i64.wrap x ∧ IntKind.i64.wrap x ≤ 9223372036854775807 := by rw [IntKind.wrap_i64]; omega
theorem long_u : Tryz.prog.underlying 94 = some (.array 10 3) := by kernel_rfl
theorem long_i : (Tryz.prog.info? 94).map (·.size) = some 10 := by kernel_rfl
def same (X Y : List Int) : Bool := decide (X = Y)
theorem same_cons (a b : Int) (X Y : List Int) : same (a :: X) (b :: Y) = ((a == b) && same X Y) := by
  unfold same; rw [Bool.eq_iff_iff]; simp
theorem same_nil : same [] [] = true := rfl
theorem int_i : (Tryz.prog.info? 3).isSome = true := by kernel_rfl
theorem int_c : Tryz.prog.cellsOf 3 = 1 := by kernel_rfl
theorem int_u : Tryz.prog.underlying 3 = some (.int .i64) := by kernel_rfl
theorem eq_long (w : World) (x0 x1 x2 x3 x4 x5 x6 x7 x8 x9 y0 y1 y2 y3 y4 y5 y6 y7 y8 y9 : Int) :
    (Op.equalIn 10000 94 (.agg #[Value.int .i64 x0, Value.int .i64 x1, Value.int .i64 x2, Value.int .i64 x3, Value.int .i64 x4, Value.int .i64 x5, Value.int .i64 x6, Value.int .i64 x7, Value.int .i64 x8, Value.int .i64 x9]) (.agg #[Value.int .i64 y0, Value.int .i64 y1, Value.int .i64 y2, Value.int .i64 y3, Value.int .i64 y4, Value.int .i64 y5, Value.int .i64 y6, Value.int .i64 y7, Value.int .i64 y8, Value.int .i64 y9])).run Tryz.prog w = .ok (same [x0, x1, x2, x3, x4, x5, x6, x7, x8, x9] [y0, y1, y2, y3, y4, y5, y6, y7, y8, y9]) w := by
  obtain ⟨i, hi⟩ := Option.isSome_iff_exists.1 int_i
  rw [show (10000 : Nat) = 9999 + 1 from rfl, run_equalIn_array w 9999 _ _ long_u hi, int_c]
  simp only [List.range, List.range.loop, Op.eqItems]
  simp [go_sem]
  repeat' split
  all_goals simp [same_cons, same_nil, *]
theorem same_dl (y z : Int) : same (dl y) (dl z) = decide (dl y = dl z) := rfl
theorem mod_eq {y z : Int} : ∀ n : Nat, (∀ i, i < n → dg y i = dg z i) → y % 65536 ^ n = z % 65536 ^ n
  | 0, _ => by simp [Int.emod_one]
  | n + 1, h => by rw [mod_succ, mod_succ, h n (by omega), mod_eq n (fun i hi => h i (by omega))]
/-- The digits tell a number that is not too large. -/
theorem dl_inj {y z : Int} (h : dl y = dl z) (y0 : -730750818665451459101842416358141509827966271488 ≤ y) (y1 : y < 730750818665451459101842416358141509827966271488) (z0 : -730750818665451459101842416358141509827966271488 ≤ z) (z1 : z < 730750818665451459101842416358141509827966271488) : y = z := by
  simp only [dl, List.cons.injEq, and_true] at h
  have hm := mod_eq 10 (fun i hi => by
    match i, hi with
    | 0, _ => exact h.1
    | 1, _ => exact h.2.1
    | 2, _ => exact h.2.2.1
    | 3, _ => exact h.2.2.2.1
    | 4, _ => exact h.2.2.2.2.1
    | 5, _ => exact h.2.2.2.2.2.1
    | 6, _ => exact h.2.2.2.2.2.2.1
    | 7, _ => exact h.2.2.2.2.2.2.2.1
    | 8, _ => exact h.2.2.2.2.2.2.2.2.1
    | 9, _ => exact h.2.2.2.2.2.2.2.2.2)
  rw [show (65536 : Int) ^ 10 = 1461501637330902918203684832716283019655932542976 from by decide] at hm
  omega
theorem dl_mod {y z : Int} (h : y % 1461501637330902918203684832716283019655932542976 = z % 1461501637330902918203684832716283019655932542976) : dl y = dl z := by
  simp only [dl, List.cons.injEq, and_true, dg_0, dg_1, dg_2, dg_3, dg_4, dg_5, dg_6, dg_7, dg_8, dg_9]
  omega
def nn (z : Int) : Int := IntKind.i64.wrap (z % 18446744073709551616)
def hh (z : Int) : Int := IntKind.i64.wrap (z / 18446744073709551616 % 18446744073709551616)
theorem nn_bd (z : Int) : -9223372036854775808 ≤ nn z ∧ nn z ≤ 9223372036854775807 := i64w_bd _
theorem hh_bd (z : Int) : -9223372036854775808 ≤ hh z ∧ hh z ≤ 9223372036854775807 := i64w_bd _
theorem or16 (x y : Int) (k : Nat) (B : Int) (hB : B = 2 ^ k) (h0 : 0 ≤ x) (h1 : x < B) (g0 : 0 ≤ y) (g1 : y ≤ 65535) (hk : B * 65536 ≤ 18446744073709551616) : bits .or .u64 x (y * B) = x + y * B := by
  obtain ⟨X, rfl⟩ := Int.eq_ofNat_of_zero_le h0
  obtain ⟨Y, rfl⟩ := Int.eq_ofNat_of_zero_le g0
  have eB : B = ((2 ^ k : Nat) : Int) := by rw [hB]; simp
  have hX : X < 2 ^ k := by omega
  have hYB : (Y : Int) * B ≤ 65535 * B := Int.mul_le_mul_of_nonneg_right g1 (by omega)
  have e2 : ((Y : Int) * B) = ((Y * 2 ^ k : Nat) : Int) := by rw [eB]; simp
  have hp : 0 ≤ (Y : Int) * B := by rw [e2]; omega
  have hlt : (X : Int) < 18446744073709551616 := by omega
  have hlt2 : (Y : Int) * B < 18446744073709551616 := by omega
  rw [u64_or _ _ h0 hlt hp hlt2, e2]
  have : (X ||| Y * 2 ^ k) = X + Y * 2 ^ k := by
    rw [Nat.or_comm, Nat.mul_comm, ← Nat.two_pow_add_eq_or_of_lt hX, Nat.add_comm]
  simp only [Int.toNat_natCast]
  rw [this]; simp
theorem or_lo (z : Int) : bits .or .u64 (bits .or .u64 (bits .or .u64 (bits .or .u64 0 (dg z 0)) (dg z 1 * 65536)) (dg z 2 * 4294967296)) (dg z 3 * 281474976710656) = z % 18446744073709551616 := by
  have b0 := dg_bd z 0
  have b1 := dg_bd z 1
  have b2 := dg_bd z 2
  have b3 := dg_bd z 3
  have e0 : bits .or .u64 0 (dg z 0) = dg z 0 := by have := or16 0 (dg z 0) 0 1 rfl (by omega) (by omega) b0.1 b0.2 (by omega); rw [Int.mul_one] at this; omega
  have e1 := or16 (dg z 0) (dg z 1) 16 65536 (by decide) (by omega) (by omega) b1.1 b1.2 (by omega)
  have e2 := or16 (dg z 0 + dg z 1 * 65536) (dg z 2) 32 4294967296 (by decide) (by omega) (by omega) b2.1 b2.2 (by omega)
  have e3 := or16 (dg z 0 + dg z 1 * 65536 + dg z 2 * 4294967296) (dg z 3) 48 281474976710656 (by decide) (by omega) (by omega) b3.1 b3.2 (by omega)
  rw [e0, e1, e2, e3]; simp only [dg_0, dg_1, dg_2, dg_3]; omega
theorem or_hi (z : Int) : bits .or .u64 (bits .or .u64 (bits .or .u64 (bits .or .u64 0 (dg z 4)) (dg z 5 * 65536)) (dg z 6 * 4294967296)) (dg z 7 * 281474976710656) = z / 18446744073709551616 % 18446744073709551616 := by
  have b0 := dg_bd z 4
  have b1 := dg_bd z 5
  have b2 := dg_bd z 6
  have b3 := dg_bd z 7
  have e0 : bits .or .u64 0 (dg z 4) = dg z 4 := by have := or16 0 (dg z 4) 0 1 rfl (by omega) (by omega) b0.1 b0.2 (by omega); rw [Int.mul_one] at this; omega
  have e1 := or16 (dg z 4) (dg z 5) 16 65536 (by decide) (by omega) (by omega) b1.1 b1.2 (by omega)
  have e2 := or16 (dg z 4 + dg z 5 * 65536) (dg z 6) 32 4294967296 (by decide) (by omega) (by omega) b2.1 b2.2 (by omega)
  have e3 := or16 (dg z 4 + dg z 5 * 65536 + dg z 6 * 4294967296) (dg z 7) 48 281474976710656 (by decide) (by omega) (by omega) b3.1 b3.2 (by omega)
  rw [e0, e1, e2, e3]; simp only [dg_4, dg_5, dg_6, dg_7]; omega
theorem int_same (z : Int) (z0 : -730750818665451459101842416358141509827966271488 ≤ z) (z1 : z < 730750818665451459101842416358141509827966271488) : same [dg (nn z) 0, dg (nn z) 1, dg (nn z) 2, dg (nn z) 3, dg (nn z) 4, dg (nn z) 5, dg (nn z) 6, dg (nn z) 7, dg (nn z) 8, dg (nn z) 9] [dg z 0, dg z 1, dg z 2, dg z 3, dg z 4, dg z 5, dg z 6, dg z 7, dg z 8, dg z 9] = fit64 z := by
  show same (dl (nn z)) (dl z) = _
  have hb := nn_bd z
  have hm : ∃ k, z = nn z + 18446744073709551616 * k := ⟨(z - nn z) / 18446744073709551616, by unfold nn; rw [IntKind.wrap_i64]; omega⟩
  obtain ⟨k, hk⟩ := hm
  by_cases h : -9223372036854775808 ≤ z ∧ z < 9223372036854775808
  · have e : nn z = z := by omega
    rw [e, (fit64_yes h.1 h.2).1, same_dl]; simp
  · rw [(fit64_no h).1, same_dl]
    refine decide_eq_false fun e => h ?_
    have := dl_inj e (by omega) (by omega) z0 z1
    omega
theorem wide_same (z : Int) (z0 : -730750818665451459101842416358141509827966271488 ≤ z) (z1 : z < 730750818665451459101842416358141509827966271488) : same [dg (vl (hh z) (z % 18446744073709551616)) 0, dg (vl (hh z) (z % 18446744073709551616)) 1, dg (vl (hh z) (z % 18446744073709551616)) 2, dg (vl (hh z) (z % 18446744073709551616)) 3, dg (vl (hh z) (z % 18446744073709551616)) 4, dg (vl (hh z) (z % 18446744073709551616)) 5, dg (vl (hh z) (z % 18446744073709551616)) 6, dg (vl (hh z) (z % 18446744073709551616)) 7, dg (vl (hh z) (z % 18446744073709551616)) 8, dg (vl (hh z) (z % 18446744073709551616)) 9] [dg z 0, dg z 1, dg z 2, dg z 3, dg z 4, dg z 5, dg z 6, dg z 7, dg z 8, dg z 9] = fit z := by
  show same (dl (vl (hh z) (z % 18446744073709551616))) (dl z) = _
  have hb := hh_bd z
  have hm : ∃ k, z / 18446744073709551616 = hh z + 18446744073709551616 * k := ⟨(z / 18446744073709551616 - hh z) / 18446744073709551616, by unfold hh; rw [IntKind.wrap_i64]; omega⟩
  obtain ⟨k, hk⟩ := hm
  by_cases h : -170141183460469231731687303715884105728 ≤ z ∧ z < 170141183460469231731687303715884105728
  · have e : vl (hh z) (z % 18446744073709551616) = z := by unfold vl; omega
    rw [e, (fit_yes h.1 h.2).1, same_dl]; simp
  · rw [(fit_no h).1, same_dl]
    refine decide_eq_false fun e => h ?_
    have := dl_inj e (by unfold vl; omega) (by unfold vl; omega) z0 z1
    unfold vl at this; omega
theorem int_vals2 (z : Int) : (fit64 z = true → nn z = f64 z) ∧ (fit64 z = false → 0 = f64 z) := by
  have hb := nn_bd z
  have hm : ∃ k, z = nn z + 18446744073709551616 * k := ⟨(z - nn z) / 18446744073709551616, by unfold nn; rw [IntKind.wrap_i64]; omega⟩
  obtain ⟨k, hk⟩ := hm
  refine ⟨fun h => ?_, fun h => by unfold f64; simp [h]⟩
  have h2 : -9223372036854775808 ≤ z ∧ z < 9223372036854775808 := by unfold fit64 at h; simpa using h
  rw [(fit64_yes h2.1 h2.2).2]; omega
theorem wide_vals2 (z : Int) : (fit z = true → hh z = fh z ∧ z % 18446744073709551616 = fl z) ∧ (fit z = false → 0 = fh z ∧ 0 = fl z) := by
  have hb := hh_bd z
  have hm : ∃ k, z / 18446744073709551616 = hh z + 18446744073709551616 * k := ⟨(z / 18446744073709551616 - hh z) / 18446744073709551616, by unfold hh; rw [IntKind.wrap_i64]; omega⟩
  obtain ⟨k, hk⟩ := hm
  refine ⟨fun h => ?_, fun h => ⟨by unfold fh; simp [h], by unfold fl; simp [h]⟩⟩
  have h2 : -170141183460469231731687303715884105728 ≤ z ∧ z < 170141183460469231731687303715884105728 := by unfold fit at h; simpa using h
  rw [(fit_yes h2.1 h2.2).2.1, (fit_yes h2.1 h2.2).2.2]; omega
theorem minus_dl (z : Int) : [65535 - dg z 0, 65535 - dg z 1, 65535 - dg z 2, 65535 - dg z 3, 65535 - dg z 4, 65535 - dg z 5, 65535 - dg z 6, 65535 - dg z 7, 65535 - dg z 8, 65535 - dg z 9] = dl (-1 - z) := by
  simp only [dl, List.cons.injEq, and_true, dg_0, dg_1, dg_2, dg_3, dg_4, dg_5, dg_6, dg_7, dg_8, dg_9]
  omega
theorem one_dl : [1, 0, 0, 0, 0, 0, 0, 0, 0, 0] = dl 1 := by decide
theorem below_dg (z : Int) (z0 : -730750818665451459101842416358141509827966271488 ≤ z) (z1 : z < 730750818665451459101842416358141509827966271488) : decide (32768 ≤ dg z 9) = decide (z < 0) := by
  rw [Bool.eq_iff_iff]; simp only [decide_eq_true_eq, dg_9]; omega
end Go.Proofs.YtiblpdjehknbcaaGreat.Wid
