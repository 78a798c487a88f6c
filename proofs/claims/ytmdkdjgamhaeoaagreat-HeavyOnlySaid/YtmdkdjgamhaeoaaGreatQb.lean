/- Texts that statements lean on, put together: OrdMid, OrdOne, OrdRef, RowPc, RowSt, WidMath, WidBase, WidAdd, WidDig. -/
import Derived.Test.YtmdkdjgamhaeoaaGreatQa
import Derived.Test.YtmdkdjgamhaeoaaGreatRows
import Derived.Deep.LoopGhost
import Derived.Deep.RegionHeld3
import Derived.Deep.QuietTactic
import Derived.BigQuiet
import Derived.Laws.Cover3
import Derived.WalkMore
import Derived.Deep.AppendLies
import Derived.WalkKit
import Derived.Lib.Hide
import Derived.Handy
import Derived.Shelf.Spec.BitsCarry
import Derived.Laws.BitsAllLaws
/- A row of numbers in the midst of a block, which may be written; the number halfway; a row parted at a border. No stage's own but for layer 5's numbers in order. -/
namespace Go.Proofs.YtmdkdjgamhaeoaaGreat.Ord
open Go Go.RowKit Lw
set_option linter.unusedVariables false
/-- The numbers zs lie in block g from i on, and may be written. -/
def Mid (w : World) (g i : Nat) (zs : List Int) : Prop := ∃ (cur : Array Value) (e : TypeId), w.heap[g]? = some (.cells cur e (0, 0)) ∧ ∀ j v, zs[j]? = some v → cur[i + j]? = some (.int .i64 v)
theorem add_at (g i j : Nat) : (⟨g, i, none⟩ : Addr).add j = ⟨g, i + j, none⟩ := by unfold Addr.add; split <;> simp_all
theorem Mid.cell {w : World} {g i : Nat} {zs : List Int} (h : Mid w g i zs) {j : Nat} {v : Int} (hv : zs[j]? = some v) : w.cell? ⟨g, i + j, none⟩ = some (.int .i64 v) := by
  obtain ⟨cur, e, h1, h2⟩ := h
  simp [World.cell?, h1, h2 j v hv]
theorem Mid.frozen {w : World} {g i : Nat} {zs : List Int} (h : Mid w g i zs) (o : Nat) : w.frozen? ⟨g, o, none⟩ = false := by
  obtain ⟨cur, e, h1, h2⟩ := h
  simp [World.frozen?, h1]
theorem Mid.lt {w : World} {g i : Nat} {zs : List Int} (h : Mid w g i zs) : g < w.heap.size := by
  obtain ⟨cur, e, h1, h2⟩ := h
  rcases Nat.lt_or_ge g w.heap.size with h3 | h3
  · exact h3
  · rw [Array.getElem?_eq_none h3] at h1; cases h1
theorem Mid.rd {w : World} {g i : Nat} {zs : List Int} (h : Mid w g i zs) : Rd .i64 w (some ⟨g, i, none⟩) zs := fun j v hv => ⟨_, rfl, by rw [add_at]; exact h.cell hv⟩
theorem Mid.keep {w w' : World} {g i : Nat} {zs : List Int} {F : Nat → Prop} (h : Mid w g i zs) (hk : Kept F w w') (hf : ¬ F g) : Mid w' g i zs := by
  obtain ⟨cur, e, h1, h2⟩ := h
  exact ⟨cur, e, hk.heap h1 hf, h2⟩
theorem Mid.up {w w' : World} {g i : Nat} {zs : List Int} (h : Mid w g i zs) (hb : Below w.heap.size w w') : Mid w' g i zs := h.keep (F := fun _ => False) (Kept.of_below hb) (fun h => h)
theorem Mid.take {w : World} {g i : Nat} {zs : List Int} (h : Mid w g i zs) (m : Nat) : Mid w g i (zs.take m) := by
  obtain ⟨cur, e, h1, h2⟩ := h
  refine ⟨cur, e, h1, fun j v hv => h2 j v ?_⟩
  rw [List.getElem?_take] at hv
  split at hv
  · exact hv
  · cases hv
theorem Mid.drop {w : World} {g i : Nat} {zs : List Int} (h : Mid w g i zs) (m : Nat) : Mid w g (i + m) (zs.drop m) := by
  obtain ⟨cur, e, h1, h2⟩ := h
  refine ⟨cur, e, h1, fun j v hv => ?_⟩
  rw [List.getElem?_drop] at hv
  rw [Nat.add_assoc]
  exact h2 _ v hv
theorem Mid.set {w : World} {g i : Nat} {zs : List Int} (h : Mid w g i zs) (j : Nat) (x : Int) : Mid (w.setCell ⟨g, i + j, none⟩ (.int .i64 x)) g i (zs.set j x) := by
  obtain ⟨cur, e, h1, h2⟩ := h
  refine ⟨cur.setIfInBounds (i + j) (.int .i64 x), e, by simp [World.setCell, Array.getElem?_modify, h1], fun q v hv => ?_⟩
  rw [List.getElem?_set] at hv
  split at hv
  · rename_i hq
    split at hv
    · rename_i hlt
      subst hq
      injection hv with hv
      subst hv
      have h3 := h2 j zs[j] (List.getElem?_eq_getElem hlt)
      have h4 : i + j < cur.size := by
        rcases Nat.lt_or_ge (i + j) cur.size with h5 | h5
        · exact h5
        · rw [Array.getElem?_eq_none h5] at h3; cases h3
      rw [Array.getElem?_setIfInBounds_self_of_lt h4]
    · cases hv
  · rename_i hq
    rw [Array.getElem?_setIfInBounds_ne (by omega)]
    exact h2 q v hv
theorem mid_own {w : World} {base : Nat} {e : TypeId} {A : Addr} {n cap : Nat} {zs : List Int} (h : w.ownsRow base e 1 (.slice (some A) n cap) n (zs.map (Value.int .i64))) : ∃ g, A = ⟨g, 0, none⟩ ∧ base ≤ g ∧ Mid w g 0 zs := by
  have h0 := h
  obtain ⟨h1, h2⟩ := h
  rcases h2 with ⟨h3, _⟩ | ⟨g, cap2, cur, h3, hbase, hh, hl, hm, hx, hy⟩
  · cases h3
  · injection h3 with h3 h4 h5
    injection h3 with h3
    subst h3
    refine ⟨g, rfl, hbase, cur, e, hh, fun j v hv => ?_⟩
    have h4 := h0.cells (g := g) rfl j (.int .i64 v) (by rw [List.getElem?_map, hv]; rfl)
    rw [add_at] at h4
    simpa [World.cell?, hh] using h4
/-! ### Halfway -/
theorem nat_half : ∀ x y : Nat, x + y = 2 * (x &&& y) + (x ^^^ y) := by
  intro x
  induction x using Nat.strongRecOn with
  | ind x ih =>
    intro y
    by_cases h : x = 0
    · subst h; simp
    · have h1 := ih (x / 2) (by omega) (y / 2)
      have a1 : (x &&& y) / 2 = x / 2 &&& y / 2 := by have e := Nat.shiftRight_and_distrib (a := x) (b := y) (i := 1); simpa [Nat.shiftRight_eq_div_pow] using e
      have a2 : (x ^^^ y) / 2 = x / 2 ^^^ y / 2 := by have e := Nat.shiftRight_xor_distrib (a := x) (b := y) (i := 1); simpa [Nat.shiftRight_eq_div_pow] using e
      have b1 : (x &&& y) % 2 = (x % 2) * (y % 2) := by
        have e1 := Nat.and_mod_two_pow (a := x) (b := y) (n := 1)
        simp only [Nat.pow_one] at e1
        rw [e1]
        rcases Nat.mod_two_eq_zero_or_one x with p | p <;> rcases Nat.mod_two_eq_zero_or_one y with q | q <;> rw [p, q] <;> decide
      have b2 : (x ^^^ y) % 2 = (x % 2 + y % 2) % 2 := by
        have e1 := Nat.xor_mod_two_pow (a := x) (b := y) (n := 1)
        simp only [Nat.pow_one] at e1
        rw [e1]
        rcases Nat.mod_two_eq_zero_or_one x with p | p <;> rcases Nat.mod_two_eq_zero_or_one y with q | q <;> rw [p, q] <;> decide
      rw [← a1, ← a2] at h1
      rcases Nat.mod_two_eq_zero_or_one x with p | p <;> rcases Nat.mod_two_eq_zero_or_one y with q | q <;> rw [p, q] at b1 b2 <;> omega
theorem xor_i64 (a b : Int) : bits .xor .i64 a b = (BitVec.ofInt 64 a ^^^ BitVec.ofInt 64 b).toInt := wrap_bv _
theorem bv_half (X Y : BitVec 64) : X.toInt + Y.toInt = 2 * (X &&& Y).toInt + (X ^^^ Y).toInt := by
  have h := nat_half X.toNat Y.toNat
  have p := BitVec.msb_and (x := X) (y := Y)
  have q := BitVec.msb_xor (x := X) (y := Y)
  rw [BitVec.toInt_eq_msb_cond, BitVec.toInt_eq_msb_cond, BitVec.toInt_eq_msb_cond, BitVec.toInt_eq_msb_cond, p, q, BitVec.toNat_and, BitVec.toNat_xor]
  have hx := X.isLt
  have hy := Y.isLt
  cases X.msb <;> cases Y.msb <;> simp <;> omega
theorem half_eq (a b : Int) (a0 : -9223372036854775808 ≤ a) (a1 : a ≤ 9223372036854775807) (b0 : -9223372036854775808 ≤ b) (b1 : b ≤ 9223372036854775807) : bits .and .i64 a b + bits .xor .i64 a b / 2 = (a + b) / 2 := by
  have h := bv_half (BitVec.ofInt 64 a) (BitVec.ofInt 64 b)
  rw [bv_of a a0 a1, bv_of b b0 b1] at h
  rw [and_i64, xor_i64]
  omega
theorem bv_bd (X : BitVec 64) : -9223372036854775808 ≤ X.toInt ∧ X.toInt ≤ 9223372036854775807 := by
  have h := X.isLt
  rw [BitVec.toInt_eq_toNat_cond]
  split <;> omega
theorem and_bd (a b : Int) : -9223372036854775808 ≤ bits .and .i64 a b ∧ bits .and .i64 a b ≤ 9223372036854775807 := by
  rw [and_i64]
  exact bv_bd _
theorem xor_bd (a b : Int) : -9223372036854775808 ≤ bits .xor .i64 a b ∧ bits .xor .i64 a b ≤ 9223372036854775807 := by
  rw [xor_i64]
  exact bv_bd _
/-! ### Parted -/
/-- ys is zs in another order; the first c are not beyond b, and those from there to k are. -/
structure Parts (zs : List Int) (b : Int) (ys : List Int) (c k : Nat) : Prop where
  perm : ys.Perm zs
  ck : c ≤ k
  kl : k ≤ ys.length
  lo : ∀ j v, ys[j]? = some v → j < c → v ≤ b
  hi : ∀ j v, ys[j]? = some v → c ≤ j → j < k → b < v
theorem Parts.start (zs : List Int) (b : Int) : Parts zs b zs 0 0 := ⟨.refl _, Nat.le_refl _, Nat.zero_le _, fun _ _ _ h => by omega, fun _ _ _ _ h => by omega⟩
theorem Parts.past {zs : List Int} {b : Int} {ys : List Int} {c k : Nat} (h : Parts zs b ys c k) {x : Int} (hx : ys[k]? = some x) (hb : b < x) : Parts zs b ys c (k + 1) := by
  have hl := (List.getElem?_eq_some_iff.1 hx).1
  refine ⟨h.perm, by have := h.ck; omega, hl, h.lo, fun j v hv h1 h2 => ?_⟩
  by_cases h3 : j = k
  · subst h3; rw [hx] at hv; injection hv with hv; omega
  · exact h.hi j v hv h1 (by omega)
theorem Parts.swap {zs : List Int} {b : Int} {ys : List Int} {c k : Nat} (h : Parts zs b ys c k) {x y : Int} (hx : ys[k]? = some x) (hy : ys[c]? = some y) (hb : x ≤ b) : Parts zs b ((ys.set k y).set c x) (c + 1) (k + 1) := by
  obtain ⟨hl, ex⟩ := List.getElem?_eq_some_iff.1 hx
  obtain ⟨hc, ey⟩ := List.getElem?_eq_some_iff.1 hy
  have hck := h.ck
  refine ⟨?_, by omega, by simp; omega, ?_, ?_⟩
  · have hp := @List.set_set_perm _ ys k c hl hc
    rw [ex, ey] at hp
    exact hp.trans h.perm
  · intro j v hv hj
    rw [List.getElem?_set] at hv
    split at hv
    · rw [if_pos (by simpa using hc)] at hv
      injection hv with hv; omega
    · rw [List.getElem?_set, if_neg (by omega)] at hv
      exact h.lo j v hv (by omega)
  · intro j v hv h1 h2
    rw [List.getElem?_set, if_neg (by omega), List.getElem?_set] at hv
    by_cases h3 : k = j
    · rw [if_pos h3, if_pos hl] at hv
      injection hv with hv
      subst hv
      exact h.hi c y hy (Nat.le_refl _) (by omega)
    · rw [if_neg h3] at hv
      exact h.hi j v hv (by omega) (by omega)
theorem Parts.upto {zs : List Int} {b : Int} {ys : List Int} {c : Nat} (h : Parts zs b ys c ys.length) : c ≤ zs.length ∧ (∀ v ∈ ys.take c, v ≤ b) ∧ (∀ v ∈ ys.drop c, b < v) := by
  refine ⟨by rw [← h.perm.length_eq]; exact h.ck, fun v hv => ?_, fun v hv => ?_⟩
  · obtain ⟨j, h1, h2, rfl⟩ := mem_take_get hv
    exact h.lo j _ (by rw [List.getElem?_eq_getElem h2]; rfl) h1
  · obtain ⟨j, h1, h2, rfl⟩ := mem_drop_get hv
    exact h.hi j _ (by rw [List.getElem?_eq_getElem h2]; rfl) h1 h2
theorem less_zero {l : List Int} {x : Int} (h : ∀ v ∈ l, x ≤ v) : less l x = 0 := by
  unfold less; rw [List.countP_eq_zero]; intro v hv; have := h v hv; simp; omega
theorem less_all {l : List Int} {x : Int} (h : ∀ v ∈ l, v < x) : less l x = l.length := by
  unfold less; rw [List.countP_eq_length]; intro v hv; have := h v hv; simp; omega
theorem upto_all {l : List Int} {x : Int} (h : ∀ v ∈ l, v ≤ x) : Ord.upto l x = l.length := by
  unfold Ord.upto; rw [List.countP_eq_length]; intro v hv; have := h v hv; simp; omega
theorem less_app (l m : List Int) (x : Int) : less (l ++ m) x = less l x + less m x := List.countP_append ..
theorem upto_app (l m : List Int) (x : Int) : Ord.upto (l ++ m) x = Ord.upto l x + Ord.upto m x := List.countP_append ..
/-- The k-th of all is the k-th of those within. -/
theorem kth_within {ys : List Int} {b : Int} {c k : Nat} (h1 : ∀ v ∈ ys.take c, v ≤ b) (h2 : ∀ v ∈ ys.drop c, b < v) (hc : c ≤ ys.length) (hk : k < c) : kth (ys.take c) k = kth ys k := by
  have hr := ranks_kth (ys.take c) k (by rw [List.length_take]; omega)
  obtain ⟨m1, m2, m3⟩ := hr
  have hx := h1 _ m1
  refine kth_eq ⟨List.mem_of_mem_take m1, ?_, ?_⟩
  · have e := less_app (ys.take c) (ys.drop c) (kth (ys.take c) k)
    rw [List.take_append_drop, less_zero (l := ys.drop c) (fun v hv => by have := h2 v hv; omega)] at e
    omega
  · have e := upto_app (ys.take c) (ys.drop c) (kth (ys.take c) k)
    rw [List.take_append_drop] at e
    omega
theorem kth_beyond {ys : List Int} {b : Int} {c k : Nat} (h1 : ∀ v ∈ ys.take c, v ≤ b) (h2 : ∀ v ∈ ys.drop c, b < v) (hc : c ≤ ys.length) (hk : c ≤ k) (hl : k < ys.length) : kth (ys.drop c) (k - c) = kth ys k := by
  have hr := ranks_kth (ys.drop c) (k - c) (by rw [List.length_drop]; omega)
  obtain ⟨m1, m2, m3⟩ := hr
  have hx := h2 _ m1
  have hlen : (ys.take c).length = c := by rw [List.length_take]; omega
  refine kth_eq ⟨List.mem_of_mem_drop m1, ?_, ?_⟩
  · have e := less_app (ys.take c) (ys.drop c) (kth (ys.drop c) (k - c))
    rw [List.take_append_drop, less_all (l := ys.take c) (fun v hv => by have := h1 v hv; omega)] at e
    omega
  · have e := upto_app (ys.take c) (ys.drop c) (kth (ys.drop c) (k - c))
    rw [List.take_append_drop, upto_all (l := ys.take c) (fun v hv => by have := h1 v hv; omega)] at e
    omega
end Go.Proofs.YtmdkdjgamhaeoaaGreat.Ord
/- The walks of package order: Kth looks for the number at a place by parting numbers halfway between their ends; Min and Median ask it. -/
namespace Go.Proofs.YtmdkdjgamhaeoaaGreat.Ord
open Go Go.RowKit Lw
set_option linter.unusedVariables false
set_option linter.unusedSimpArgs false
theorem ret_ok {a b : Int} {p q : Bool} (h : a = b) (g : p = q) : Ending.returned (.tuple #[.int .i64 a, .bool p]) = .returned (.tuple #[.int .i64 b, .bool q]) := by rw [h, g]
theorem oi64_info : (Tryz.prog.info? 2).map (fun i => (i.zero, i.size, i.bytes)) = some (some (.int .i64 0), 1, 8) := by kernel_rfl
theorem oi64s_u : Tryz.prog.underlying 54 = some (.slice 2) := by kernel_rfl
theorem halfway_any (a b : Int) (w : World) (a0 : -9223372036854775808 ≤ a) (a1 : a ≤ 9223372036854775807) (b0 : -9223372036854775808 ≤ b) (b1 : b ≤ 9223372036854775807) :
    Calls Tryz.prog 180 #[.int .i64 a, .int .i64 b] w fun e w' => e = .returned (.int .i64 ((a + b) / 2)) ∧ w' = w := by
  have e := half_eq a b a0 a1 b0 b1
  have e2 := and_bd a b
  have e3 := xor_bd a b
  go_enter Tryz.func180, Tryz.ntmps180
  go_wp2
  go_ret
  exact ⟨rfl, rfl⟩
/-- What ends tells. -/
def Ends (zs : List Int) (lo hi : Int) : Prop := lo ∈ zs ∧ hi ∈ zs ∧ ∀ v ∈ zs, lo ≤ v ∧ v ≤ hi
set_option maxRecDepth 100000 in
theorem ends_any (ad : Addr) (n cap : Nat) (zs : List Int) (w : World) (hn : n ≤ cap) (hcap : cap ≤ maxLen) (hr : Rd .i64 w (some ad) zs) (hl : zs.length = n) (h1 : 0 < n) (hs : n ≤ 1000) (hz : In64 zs) :
    Calls Tryz.prog 181 #[.slice (some ad) n cap] w fun e w' => ∃ lo hi, e = .returned (.tuple #[.int .i64 lo, .int .i64 hi]) ∧ Ends zs lo hi ∧ Below w.heap.size w w' := by
  have HR := Lib.hid hr
  have HZ := Lib.hid hz
  have HL := Lib.hid hl
  unfold maxLen at hcap
  have h1' : 0 < zs.length := by omega
  have c0 := HR.out.at (j := 0) (v := zs[0]) (List.getElem?_eq_getElem h1')
  have ca0 : ad.add 0 = ad := by unfold Addr.add; simp
  obtain ⟨f, hf⟩ : ∃ f, f = zs[0] := ⟨_, rfl⟩
  rw [← hf] at c0
  have hfm : f ∈ zs := by rw [hf]; exact List.getElem_mem h1'
  have fb := HZ.out f hfm
  have HF := Lib.hid hfm
  have h0n : (0 : Int) < n := by omega
  rw [ca0] at c0
  clear hf hfm hl hr hz h1'
  go_enter Tryz.func181, Tryz.ntmps181
  go_wp2
  go_quiet (fail)
  go_wp2
  go_loopw [2, 3, 14] (fun a b i wr => ∃ (k d : Nat) (x y : Int), k ≤ n ∧ i = .int .i64 k ∧ a = .int .i64 x ∧ b = .int .i64 y ∧ x ∈ zs ∧ y ∈ zs ∧ (∀ v ∈ zs.take k, x ≤ v ∧ v ≤ y) ∧ wr = w.drewN d) (fun _ _ i _ => n - (intOf i).toNat)
  case atStart => exact ⟨0, _, f, f, Nat.zero_le _, rfl, rfl, rfl, HF.out, HF.out, fun v hv => by simp at hv, rfl⟩
  case round =>
    obtain ⟨k, d, x, y, hk, rfl, rfl, rfl, hx, hy, hall, rfl⟩ := hrel
    have xb := HZ.out x hx
    have yb := HZ.out y hy
    have HX := Lib.hid hx
    have HY := Lib.hid hy
    have HA := Lib.hid hall
    clear hx hy hall
    by_cases hlt : k < n
    · have hkl : k < zs.length := by have := HL.out; omega
      obtain ⟨v, hv⟩ : ∃ v, zs[k]? = some v := ⟨_, List.getElem?_eq_getElem hkl⟩
      have hc := HR.out.at hv
      have hvm := List.mem_of_getElem? hv
      have vb := HZ.out v hvm
      have HV := Lib.hid hvm
      have HN := Lib.hid (take_next zs k v hv)
      clear hv hvm
      by_cases h2 : v < x
      · by_cases h3 : y < v
        · go_wp2
          go_roundw
          case rel => exact ⟨k + 1, _, v, v, by omega, by go_num, rfl, rfl, HV.out, HV.out, fun u hu => by rw [HN.out] at hu; rcases List.mem_append.1 hu with h4 | h4; (have := HA.out u h4; omega); (simp at h4; omega), rfl⟩
          case measure => simp [intOf]; omega
        · go_wp2
          go_roundw
          case rel => exact ⟨k + 1, _, v, y, by omega, by go_num, rfl, rfl, HV.out, HY.out, fun u hu => by rw [HN.out] at hu; rcases List.mem_append.1 hu with h4 | h4; (have := HA.out u h4; omega); (simp at h4; omega), rfl⟩
          case measure => simp [intOf]; omega
      · by_cases h3 : y < v
        · go_wp2
          go_roundw
          case rel => exact ⟨k + 1, _, x, v, by omega, by go_num, rfl, rfl, HX.out, HV.out, fun u hu => by rw [HN.out] at hu; rcases List.mem_append.1 hu with h4 | h4; (have := HA.out u h4; omega); (simp at h4; omega), rfl⟩
          case measure => simp [intOf]; omega
        · go_wp2
          go_roundw
          case rel => exact ⟨k + 1, _, x, y, by omega, by go_num, rfl, rfl, HX.out, HY.out, fun u hu => by rw [HN.out] at hu; rcases List.mem_append.1 hu with h4 | h4; (have := HA.out u h4; omega); (simp at h4; omega), rfl⟩
          case measure => simp [intOf]; omega
    · have e : k = n := by omega
      subst e
      have E : Hid (Ends zs x y) := Lib.hid ⟨HX.out, HY.out, fun v hv => HA.out v (by rw [List.take_of_length_le (by have := HL.out; omega)]; exact hv)⟩
      go_wp2
      go_ret2
      exact ⟨x, y, rfl, E.out, below_drewN (Below.refl _ _) _⟩
theorem addr_letter (g i : Nat) : ∃ ad : Addr, (⟨g, i, none⟩ : Addr) = ad := ⟨_, rfl⟩
set_option maxRecDepth 100000 in
theorem part_any (g i n cap : Nat) (zs : List Int) (b : Int) (w : World) (hn : n ≤ cap) (hcap : cap ≤ maxLen) (hm : Mid w g i zs) (hl : zs.length = n) (h1 : 0 < n) (hs : n ≤ 1000) (hz : In64 zs) (b0 : -9223372036854775808 ≤ b) (b1 : b ≤ 9223372036854775807) :
    Calls Tryz.prog 179 #[.slice (some ⟨g, i, none⟩) n cap, .int .i64 b] w fun e w' => ∃ (c : Nat) (ys : List Int) (B : Option Addr), e = .returned (.tuple #[.slice (some ⟨g, i, none⟩) c cap, .slice B (n - c) (cap - c)]) ∧ Parts zs b ys c n ∧ (c < n → B = some ⟨g, i + c, none⟩) ∧ Mid w' g i ys ∧ Kept (fun q => q = g) w w' := by
  have HM := Lib.hid hm
  have HZ := Lib.hid hz
  have HL := Lib.hid hl
  unfold maxLen at hcap
  clear hm hz hl
  obtain ⟨ad, had⟩ := addr_letter g i
  have HAD := Lib.hid had
  rw [had]
  clear had
  go_enter Tryz.func179, Tryz.ntmps179
  go_wp2
  go_loopw [6, 11] (fun ct ix wr => ∃ (c k : Nat) (ys : List Int), k ≤ n ∧ ct = .int .i64 c ∧ ix = .int .i64 k ∧ Parts zs b ys c k ∧ Mid wr g i ys ∧ Kept (fun q => q = g) w wr) (fun _ ix _ => n - (intOf ix).toNat)
  case atStart => exact ⟨0, 0, zs, Nat.zero_le _, rfl, rfl, Parts.start _ _, HM.out, Kept.refl _ _⟩
  case round =>
    obtain ⟨c, k, ys, hk, rfl, rfl, hp, hmid, hkept⟩ := hrel
    have hck := hp.ck
    have hyl : ys.length = n := by rw [hp.perm.length_eq]; exact HL.out
    have HP := Lib.hid hp
    have HMI := Lib.hid hmid
    have HK := Lib.hid hkept
    have HYL := Lib.hid hyl
    have HYZ : Hid (In64 ys) := Lib.hid (fun v hv => HZ.out v (hp.perm.mem_iff.1 hv))
    clear hp hmid hkept hyl
    by_cases hlt : k < n
    · have hkl : k < ys.length := by have := HYL.out; omega
      have hcl : c < ys.length := by have := HYL.out; omega
      obtain ⟨x, hx⟩ : ∃ x, ys[k]? = some x := ⟨_, List.getElem?_eq_getElem hkl⟩
      obtain ⟨y, hy⟩ : ∃ y, ys[c]? = some y := ⟨_, List.getElem?_eq_getElem hcl⟩
      have xb := HYZ.out.at hx
      have yb := HYZ.out.at hy
      have cx := HMI.out.rd.at hx
      have cy := HMI.out.rd.at hy
      have fx := HMI.out.frozen (i + k)
      have fy := HMI.out.frozen (i + c)
      have m1 := HMI.out.set k y
      have m2 := m1.set c x
      have cy1 := m1.rd.at (j := c) (v := (if k = c then y else y)) (by rw [List.getElem?_set]; by_cases e : k = c <;> simp [e, hy]; omega)
      have fy1 := m1.frozen (i + c)
      have k1 : Kept (fun q => q = g) w ((wr.setCell ⟨g, i + k, none⟩ (.int .i64 y)).setCell ⟨g, i + c, none⟩ (.int .i64 x)) := (HK.out.set (.inl rfl) _ _).set (.inl rfl) _ _
      simp only [← add_at, HAD.out] at cx cy fx fy m1 m2 cy1 fy1 k1
      have M2 := Lib.hid m2
      have K1 := Lib.hid k1
      have PS := fun h => HP.out.swap hx hy h
      have PP := fun h => HP.out.past hx h
      have HPS := Lib.hid PS
      have HPP := Lib.hid PP
      simp only [ite_self] at cy1
      clear m1 m2 k1 PS PP hx hy
      by_cases h2 : x ≤ b
      · go_wp2
        go_roundw
        case rel => exact ⟨c + 1, k + 1, _, by omega, by go_num, by go_num, HPS.out h2, M2.out, K1.out⟩
        case measure => simp [intOf]; omega
      · go_wp2
        go_roundw
        case rel => exact ⟨c, k + 1, ys, by omega, rfl, by go_num, HPP.out (by omega), HMI.out, HK.out⟩
        case measure => simp [intOf]; omega
    · have e : k = n := by omega
      subst e
      have hcap0 : ¬ cap = 0 := by omega
      have ca0 : ad.add 0 = ad := by unfold Addr.add; simp
      have AC : Hid (some (ad.add c) = some (⟨g, i + c, none⟩ : Addr)) := Lib.hid (by rw [← HAD.out, add_at])
      by_cases hcc : cap = c
      · have e2 : k = c := by omega
        subst e2
        subst hcc
        go_wp2
        go_quiet (fail)
        go_wp2
        go_ret2
        exact ⟨cap, ys, some ad, by rw [Nat.sub_self]; rfl, HP.out, fun h => by omega, HMI.out.keep (Kept.of_below (F := fun _ => False) (below_drewN (Below.refl _ _) _)) (fun h => h), HK.out.drewN _⟩
      · go_wp2
        go_quiet (fail)
        go_wp2
        go_ret2
        exact ⟨c, ys, _, rfl, HP.out, fun h => AC.out, HMI.out.keep (Kept.of_below (F := fun _ => False) (below_drewN (Below.refl _ _) _)) (fun h => h), HK.out.drewN _⟩
/-- One number, the k-th of all: what Kth holds on to. -/
def Rest (w wr : World) (R : Int) (k : Int) (g i n cap : Nat) (zs : List Int) (K : Nat) : Prop :=
  k = K ∧ K < n ∧ zs.length = n ∧ n ≤ cap ∧ cap ≤ maxLen ∧ n ≤ 1000 ∧ In64 zs ∧ kth zs K = R ∧ Mid wr g i zs ∧ w.heap.size ≤ g ∧ Below w.heap.size w wr
theorem in64_perm {ys zs : List Int} (h : ys.Perm zs) (hz : In64 zs) : In64 ys := fun v hv => hz v (h.mem_iff.1 hv)
theorem kept_below {w wr w' : World} {g : Nat} (h : Kept (fun q => q = g) wr w') (hb : Below w.heap.size w wr) (hg : w.heap.size ≤ g) : Below w.heap.size w w' :=
  h.low hb hb.size (fun q hq => by subst hq; exact hg)
/-- All are within: all are the same. -/
theorem rest_same {zs ys : List Int} {lo hi : Int} {n K : Nat} (he : Ends zs lo hi) (hp : Parts zs ((lo + hi) / 2) ys n n) (hl : zs.length = n) (hK : K < n) : ∀ v, ys[0]? = some v → v = kth zs K := by
  intro v hv
  have hyl : ys.length = n := by rw [hp.perm.length_eq]; exact hl
  have h1 : hi ∈ ys := hp.perm.mem_iff.2 he.2.1
  obtain ⟨j, hj, e⟩ := List.mem_iff_getElem.1 h1
  have h2 := hp.lo j hi (by rw [List.getElem?_eq_getElem hj, e]) (by omega)
  have h3 := (he.2.2 hi he.2.1).1
  have h4 := he.2.2 v (hp.perm.mem_iff.1 (List.mem_of_getElem? hv))
  have h5 := he.2.2 _ (kth_mem zs K (by omega))
  omega
theorem rest_within {w wr w' : World} {R k lo hi : Int} {g i n cap K c : Nat} {zs ys : List Int} (h : Rest w wr R k g i n cap zs K) (hp : Parts zs ((lo + hi) / 2) ys c n) (hc : K < c) (hm : Mid w' g i ys) (hk : Kept (fun q => q = g) wr w') :
    Rest w w' R k g i c cap (ys.take c) K := by
  obtain ⟨h1, h2, h3, h4, h5, h6, h7, h8, h9, h10, h11⟩ := h
  have hyl : ys.length = n := by rw [hp.perm.length_eq]; exact h3
  rw [← hyl] at hp
  obtain ⟨p1, p2, p3⟩ := hp.upto
  have hck := hp.ck
  refine ⟨h1, hc, by rw [List.length_take]; omega, by omega, h5, by omega, in64_take (in64_perm hp.perm h7) c, ?_, hm.take c, h10, kept_below hk h11 h10⟩
  rw [kth_within p2 p3 (by omega) hc, ← h8]
  exact kth_perm hp.perm K
theorem rest_beyond {w wr w' : World} {R k lo hi : Int} {g i n cap K c : Nat} {zs ys : List Int} (h : Rest w wr R k g i n cap zs K) (hp : Parts zs ((lo + hi) / 2) ys c n) (hc : c ≤ K) (hm : Mid w' g i ys) (hk : Kept (fun q => q = g) wr w') :
    Rest w w' R (k - c) g (i + c) (n - c) (cap - c) (ys.drop c) (K - c) := by
  obtain ⟨h1, h2, h3, h4, h5, h6, h7, h8, h9, h10, h11⟩ := h
  have hyl : ys.length = n := by rw [hp.perm.length_eq]; exact h3
  rw [← hyl] at hp
  obtain ⟨p1, p2, p3⟩ := hp.upto
  have hck := hp.ck
  refine ⟨by omega, by omega, by rw [List.length_drop]; omega, by omega, by unfold maxLen at h5 ⊢; omega, by omega, in64_drop (in64_perm hp.perm h7) c, ?_, hm.drop c, h10, kept_below hk h11 h10⟩
  rw [kth_beyond p2 p3 (by omega) hc (by omega), ← h8]
  exact kth_perm hp.perm K
/-- Some are within. -/
theorem rest_some {zs ys : List Int} {lo hi : Int} {c n : Nat} (he : Ends zs lo hi) (hp : Parts zs ((lo + hi) / 2) ys c n) (hl : zs.length = n) : 0 < c := by
  rcases Nat.eq_zero_or_pos c with rfl | h
  · have hyl : ys.length = n := by rw [hp.perm.length_eq]; exact hl
    have h1 : lo ∈ ys := hp.perm.mem_iff.2 he.1
    obtain ⟨j, hj, e⟩ := List.mem_iff_getElem.1 h1
    have h2 := hp.hi j lo (by rw [List.getElem?_eq_getElem hj, e]) (by omega) (by omega)
    have h3 := (he.2.2 hi he.2.1).1
    omega
  · exact h
theorem eql_nil {P : Program} (w : World) (t e : TypeId) (a : Option Addr) (l c : Nat) (h : P.underlying t = some (.slice e)) : (binOp .eql t (.slice a l c) (.slice none 0 0)).run P w = .ok (.bool a.isNone) w := by
  simp only [binOp]
  simp [run_equal_slice_nil w t e a l c h]
theorem clone_any (A : Option Addr) (n cap : Nat) (zs : List Int) (w : World) (hA : A = none → n = 0 ∧ cap = 0) (hn : n ≤ cap) (hcap : cap ≤ maxLen) (hr : Rd .i64 w A zs) (hl : zs.length = n) (h1 : 0 < n) (hs : n ≤ 1000) :
    Calls Tryz.prog 178 #[.slice A n cap] w fun e w' => ∃ (g cap2 : Nat), e = .returned (.slice (some ⟨g, 0, none⟩) n cap2) ∧ Mid w' g 0 zs ∧ w.heap.size ≤ g ∧ n ≤ cap2 ∧ cap2 ≤ maxLen ∧ Below w.heap.size w w' := by
  obtain ⟨i0, hi, hz0, hz1, hz2⟩ := info_parts oi64_info
  obtain ⟨ad, rfl⟩ := hr.some_of (by omega)
  have HR := Lib.hid hr
  have HL := Lib.hid hl
  unfold maxLen at hcap
  have hq : ∀ w', (binOp .eql 54 (.slice (some ad) n cap) (.slice none 0 0)).run Tryz.prog w' = .ok (.bool false) w' := fun w' => eql_nil w' _ _ (some ad) n cap oi64s_u
  clear hr hA hl
  go_enter Tryz.func178, Tryz.ntmps178
  go_wp2_with (at_builtin; refine app_any .i64 rfl _ _ 54 rfl w.heap.size 2 i0 8 oi64s_u hi hz0 hz1 hz2 (.slice (some ⟨w.heap.size, 0, none⟩) 0 0) 0 [] rfl (own_empty w _ _ _ (Nat.le_refl _)) (fun h => by cases h) (some ad) n cap zs rfl (by simp) HL.out (HR.out.up (Lw.below_alloc (Below.refl _ _) _)) (by unfold maxLen; omega) (by omega) (by simp) ?_; intro A6 cap6 w6 own6 grow6 rd6 c6 d6; have hb6 : Below w.heap.size w w6 := app_below grow6 (Nat.le_refl _); (simp only [Nat.zero_add, List.nil_append] at own6 c6); (simp only [Nat.zero_add]); clear grow6 rd6)
  go_ret
  obtain ⟨g, rfl, hg, hm⟩ := mid_own own6
  exact ⟨g, cap6, rfl, hm, hg, c6, d6, hb6⟩
def slen : Value → Nat
  | .slice _ n _ => n
  | _ => 0
theorem in64_ends {zs : List Int} {lo hi : Int} (hz : In64 zs) (he : Ends zs lo hi) : -9223372036854775808 ≤ lo ∧ lo ≤ 9223372036854775807 ∧ -9223372036854775808 ≤ hi ∧ hi ≤ 9223372036854775807 :=
  ⟨(hz _ he.1).1, (hz _ he.1).2, (hz _ he.2.1).1, (hz _ he.2.1).2⟩
set_option maxRecDepth 100000 in
set_option maxHeartbeats 4000000 in
theorem kth_any (A : Option Addr) (n cap : Nat) (zs : List Int) (k : Int) (w : World) (hA : A = none → n = 0 ∧ cap = 0) (hn : n ≤ cap) (hcap : cap ≤ maxLen) (hr : Rd .i64 w A zs) (hl : zs.length = n) (hs : n ≤ 1000) (hz : In64 zs) (k0 : -9223372036854775808 ≤ k) (k1 : k ≤ 9223372036854775807) :
    Calls Tryz.prog 177 #[.slice A n cap, .int .i64 k] w fun e w' => e = .returned (.tuple #[.int .i64 (kv zs (k)), .bool (kb zs (k))]) ∧ Below w.heap.size w w' := by
  have HR := Lib.hid hr
  have HZ := Lib.hid hz
  have HL := Lib.hid hl
  have HA := Lib.hid hA
  unfold maxLen at hcap
  by_cases h0 : 0 ≤ k ∧ k < n
  · obtain ⟨g0, g1⟩ := h0
    obtain ⟨K, rfl⟩ : ∃ K : Nat, k = K := ⟨k.toNat, by omega⟩
    have e := kv_yes (l := zs) (k := (K : Int)) g0 (by omega)
    have e1 : kv zs K = kth zs K := e.1
    have E1 := Lib.hid e1
    have E2 := Lib.hid e.2
    have hKn : K < n := by omega
    have h1 : 0 < n := by omega
    clear e e1 hr hz hl hA g0 k0
    go_enter Tryz.func177, Tryz.ntmps177
    go_wp2
    go_step3
    go_wp2_with (go_at_call 178; (with_reducible refine (clone_any A n cap zs _ HA.out hn (by unfold maxLen; omega) HR.out HL.out h1 hs).mono ?_); rintro e w2 ⟨g, cap2, rfl, hm2, hg2, hc2, hd2, hb2⟩)
    have HR2 : Hid (Rest w w2 (kth zs K) K g 0 n cap2 zs K) := Lib.hid ⟨rfl, hKn, HL.out, hc2, hd2, hs, HZ.out, rfl, hm2, hg2, hb2⟩
    clear hm2 hb2 hc2 hd2
    go_step3
    go_wp2
    go_loopw [1, 6] (fun kk r wr => ∃ (i m cp : Nat) (ys : List Int) (J : Nat), kk = .int .i64 J ∧ r = .slice (some ⟨g, i, none⟩) m cp ∧ Rest w wr (kth zs K) J g i m cp ys J) (fun _ r _ => slen r)
    case atStart => exact ⟨0, n, cap2, zs, K, rfl, rfl, HR2.out⟩
    case round =>
      obtain ⟨i, m, cp, ys, J, rfl, rfl, hrest⟩ := hrel
      have HRS := Lib.hid hrest
      obtain ⟨x1, x2, x3, x4, x5, x6, x7, x8, x9, x10, x11⟩ := hrest
      have HX3 := Lib.hid x3
      have HX7 := Lib.hid x7
      have HX9 := Lib.hid x9
      clear x1 x3 x7 x8 x9 x11
      unfold maxLen at x5
      have hm0 : 0 < m := by omega
      go_wp2_with (first
        | (go_at_call 181; (with_reducible refine (ends_any ⟨g, i, none⟩ m cp ys _ x4 (by unfold maxLen; omega) HX9.out.rd HX3.out hm0 x6 HX7.out).mono ?_); rintro e w3 ⟨lo, hi, rfl, he, hb3⟩; have HE := Lib.hid he; have bd := in64_ends HX7.out he; obtain ⟨d1, d2, d3, d4⟩ := bd; clear he)
        | (go_at_call 180; (with_reducible refine (halfway_any lo hi _ d1 d2 d3 d4).mono ?_); rintro e w4 ⟨rfl, rfl⟩)
        | (go_at_call 179; (with_reducible refine (part_any g i m cp ys ((lo + hi) / 2) _ x4 (by unfold maxLen; omega) (HX9.out.up hb3) HX3.out hm0 x6 HX7.out (by omega) (by omega)).mono ?_); rintro e w5 ⟨c, us, B, rfl, hp5, hB5, hm5, hk5⟩; have hul : us.length = m := (by rw [hp5.perm.length_eq]; exact HX3.out); have hck := hp5.ck; obtain ⟨u0, hu0⟩ : ∃ u, us[0]? = some u := ⟨_, List.getElem?_eq_getElem (by omega)⟩; have hc0 : w5.cell? ⟨g, i, none⟩ = some (.int .i64 u0) := hm5.cell hu0; have HP5 := Lib.hid hp5; have HM5 := Lib.hid hm5; have HK5 := Lib.hid (((Kept.of_below (F := fun q => q = g) hb3)).trans hk5 (fun _ _ h => h)); have HB5 := Lib.hid hB5; have HU0 := Lib.hid hu0; clear hp5 hm5 hk5 hB5 hu0 hb3))
      · rename_i hcm
        have hcm2 : c = m := by
          have := of_decide_eq_true hcm
          omega
        subst hcm2
        have hs5 := rest_same HE.out HP5.out HX3.out x2 u0 HU0.out
        have hb5 := kept_below HK5.out HRS.out.2.2.2.2.2.2.2.2.2.2 x10
        have hq5 : kth ys J = kth zs K := HRS.out.2.2.2.2.2.2.2.1
        simp only [Exit.noGoto]
        go_ret2
        exact ⟨ret_ok (by rw [hs5, hq5]; exact E1.out.symm) E2.out.symm, hb5⟩
      · rename_i hcm hJc
        have hcm2 : c < m := by
          have := of_decide_eq_false hcm
          omega
        exact ⟨⟨i, c, cp, us.take c, J, rfl, rfl, rest_within HRS.out HP5.out hJc HM5.out HK5.out⟩, hcm2⟩
      · rename_i hcm hJc
        have hcm2 : c < m := by
          have := of_decide_eq_false hcm
          omega
        have hc0' := rest_some HE.out HP5.out HX3.out
        refine ⟨⟨i + c, m - c, cp - c, us.drop c, J - c, ?_, by rw [HB5.out hcm2], ?_⟩, ?_⟩
        · congr 1; omega
        · have h := rest_beyond HRS.out HP5.out (by omega) HM5.out HK5.out
          have e : ((J : Int) - c) = ((J - c : Nat) : Int) := by omega
          rw [e] at h
          exact h
        · show m - c < m
          omega
  · have e := kv_no (l := zs) (k := k) (by omega)
    have E1 := Lib.hid e.1
    have E2 := Lib.hid e.2
    clear e hr hz hl hA
    by_cases h1 : k < 0
    · clear h0
      go_enter Tryz.func177, Tryz.ntmps177
      go_wp2
      go_step3
      go_wp2
      simp only [Exit.noGoto]
      go_ret2
      exact ⟨ret_ok E1.out.symm E2.out.symm, Below.refl _ _⟩
    · have h2 : (n : Int) ≤ k := by omega
      clear h0
      go_enter Tryz.func177, Tryz.ntmps177
      go_wp2
      go_step3
      go_wp2
      simp only [Exit.noGoto]
      go_ret2
      exact ⟨ret_ok E1.out.symm E2.out.symm, Below.refl _ _⟩
set_option maxRecDepth 100000 in
theorem min_any (A : Option Addr) (n cap : Nat) (zs : List Int) (w : World) (hA : A = none → n = 0 ∧ cap = 0) (hn : n ≤ cap) (hcap : cap ≤ maxLen) (hr : Rd .i64 w A zs) (hl : zs.length = n) (hs : n ≤ 1000) (hz : In64 zs) :
    Calls Tryz.prog 173 #[.slice A n cap] w fun e w' => e = .returned (.tuple #[.int .i64 (kv zs (0)), .bool (kb zs (0))]) ∧ Below w.heap.size w w' := by
  have HR := Lib.hid hr
  have HZ := Lib.hid hz
  have HL := Lib.hid hl
  have HA := Lib.hid hA
  unfold maxLen at hcap
  clear hr hz hl hA
  go_enter Tryz.func173, Tryz.ntmps173
  go_wp2_with (go_at_call 177; (with_reducible refine (kth_any A n cap zs 0 _ HA.out hn (by unfold maxLen; omega) HR.out HL.out hs HZ.out (by omega) (by omega)).mono ?_); rintro e w2 ⟨rfl, hb2⟩)
  go_ret2
  exact ⟨rfl, hb2⟩
theorem med_at (zs : List Int) (n : Nat) (hl : zs.length = n) : kv zs (Int.tdiv ((n : Int) - 1) 2) = kv zs (((zs.length : Int) - 1) / 2) ∧ kb zs (Int.tdiv ((n : Int) - 1) 2) = kb zs (((zs.length : Int) - 1) / 2) := by
  subst hl
  by_cases h : zs.length = 0
  · have e1 := kv_no (l := zs) (k := Int.tdiv ((zs.length : Int) - 1) 2) (.inr (by rw [h]; decide))
    have e2 := kv_no (l := zs) (k := ((zs.length : Int) - 1) / 2) (.inl (by omega))
    exact ⟨e1.1.trans e2.1.symm, e1.2.trans e2.2.symm⟩
  · rw [Int.tdiv_eq_ediv_of_nonneg (by omega)]
    exact ⟨rfl, rfl⟩
set_option maxRecDepth 100000 in
theorem median_any (A : Option Addr) (n cap : Nat) (zs : List Int) (w : World) (hA : A = none → n = 0 ∧ cap = 0) (hn : n ≤ cap) (hcap : cap ≤ maxLen) (hr : Rd .i64 w A zs) (hl : zs.length = n) (hs : n ≤ 1000) (hz : In64 zs) :
    Calls Tryz.prog 174 #[.slice A n cap] w fun e w' => e = .returned (.tuple #[.int .i64 (kv zs (((zs.length : Int) - 1) / 2)), .bool (kb zs (((zs.length : Int) - 1) / 2))]) ∧ Below w.heap.size w w' := by
  have HR := Lib.hid hr
  have HZ := Lib.hid hz
  have HL := Lib.hid hl
  have HA := Lib.hid hA
  have HM := Lib.hid (med_at zs n hl)
  unfold maxLen at hcap
  have t0 : -1 ≤ Int.tdiv ((n : Int) - 1) 2 ∧ Int.tdiv ((n : Int) - 1) 2 ≤ 1000 := by
    by_cases h : n = 0
    · subst h; decide
    · rw [Int.tdiv_eq_ediv_of_nonneg (by omega)]; omega
  clear hr hz hl hA
  go_enter Tryz.func174, Tryz.ntmps174
  go_wp2_with (go_at_call 177; (with_reducible refine (kth_any A n cap zs (Int.tdiv ((n : Int) - 1) 2) _ HA.out hn (by unfold maxLen; omega) HR.out HL.out hs HZ.out (by omega) (by omega)).mono ?_); rintro e w2 ⟨rfl, hb2⟩)
  go_ret2
  exact ⟨ret_ok HM.out.1 HM.out.2, hb2⟩
end Go.Proofs.YtmdkdjgamhaeoaaGreat.Ord
/- The walks of the document's own answers for layer 5: numbers put in order. Printed by wip/gen/ordref.py. -/
namespace Go.Proofs.YtmdkdjgamhaeoaaGreat.Ord
open Go Go.RowKit Lw
set_option linter.unusedVariables false
set_option linter.unusedSimpArgs false
end Go.Proofs.YtmdkdjgamhaeoaaGreat.Ord
/- Rows of pieces: a level and an index, two cells each. Printed by wip/gen/pcsrow.py. -/
namespace Go.Proofs.YtmdkdjgamhaeoaaGreat.Pcs
open Go Go.RowKit Lw
set_option linter.unusedVariables false
/-- The cells of pairs. -/
def flatP (us : List (Int × Int)) : List Value := us.flatMap (fun u => [.int .i64 u.1, .int .u64 u.2])
theorem flatP_snoc (us : List (Int × Int)) (u : Int × Int) : flatP (us ++ [u]) = flatP us ++ [.int .i64 u.1, .int .u64 u.2] := by
  unfold flatP
  simp
theorem flatP_get : ∀ {us : List (Int × Int)} {k : Nat} {u : Int × Int}, us[k]? = some u → (flatP us)[k * 2]? = some (.int .i64 u.1) ∧ (flatP us)[k * 2 + 1]? = some (.int .u64 u.2)
  | [], k, u, h => by simp at h
  | v :: us, 0, u, h => by
    simp at h
    subst h
    unfold flatP
    simp
  | v :: us, k + 1, u, h => by
    have ih := flatP_get (us := us) (k := k) (u := u) (by simpa using h)
    have e : (k + 1) * 2 = k * 2 + 1 + 1 := by omega
    rw [e]
    unfold flatP at ih ⊢
    simpa using ih
theorem pc_info : (Tryz.prog.info? 69).map (fun i => (i.zero, i.size, i.bytes)) = some (some (.agg #[.int .i64 0, .int .u64 0]), 2, 16) := by kernel_rfl
theorem pcs_u : Tryz.prog.underlying 99 = some (.slice 69) := by kernel_rfl
/-- What lies in a row of pairs of one's own. -/
theorem own_pc {w : World} {base : Nat} {e : TypeId} {g n cap : Nat} {us : List (Int × Int)} (h : w.ownsRow base e 2 (.slice (some ⟨g, 0, none⟩) n cap) n (flatP us)) {k : Nat} {u : Int × Int} (hu : us[k]? = some u) :
    w.cell? ((⟨g, 0, none⟩ : Addr).add (k * 2)) = some (.int .i64 u.1) ∧ w.cell? ((⟨g, 0, none⟩ : Addr).add (k * 2 + 1)) = some (.int .u64 u.2) :=
  ⟨h.cells (g := g) rfl _ _ (flatP_get hu).1, h.cells (g := g) rfl _ _ (flatP_get hu).2⟩
structure PcV (w : World) (A : Option Addr) (n c : Nat) (qs : List (Int × Int)) : Prop where
  nil : A = none → n = 0 ∧ c = 0
  nc : n ≤ c
  cm : c ≤ maxLen
  len : qs.length = n
  each : ∀ (i : Nat) q, qs[i]? = some q → ∃ a, A = some a ∧ w.cell? (a.add (i * 2)) = some (.int .i64 (q.1)) ∧ w.cell? (a.add (i * 2 + 1)) = some (.int .u64 (q.2)) ∧ (-9223372036854775808 ≤ (q.1) ∧ (q.1) ≤ 9223372036854775807) ∧ (0 ≤ (q.2) ∧ (q.2) ≤ 18446744073709551615)
theorem PcV.up {w w' : World} {A : Option Addr} {n c : Nat} {qs : List (Int × Int)} (h : PcV w A n c qs) (hb : Below w.heap.size w w') : PcV w' A n c qs :=
  ⟨h.nil, h.nc, h.cm, h.len, fun i q hq => by
    obtain ⟨a, e, h1, h2, h3⟩ := h.each i q hq
    exact ⟨a, e, cell_up h1 hb, cell_up h2 hb, h3⟩⟩
theorem PcV.at {w : World} {A : Option Addr} {n c : Nat} {qs : List (Int × Int)} (h : PcV w A n c qs) {i : Nat} {q : Int × Int} (hq : qs[i]? = some q) : ∃ (a : Addr) (g o : Nat), A = some a ∧ a.add (i * 2) = ⟨g, o, none⟩ ∧ w.cell? ⟨g, o, none⟩ = some (.int .i64 q.1) ∧ w.cell? ⟨g, o + 1, none⟩ = some (.int .u64 q.2) ∧ (-9223372036854775808 ≤ q.1 ∧ q.1 ≤ 9223372036854775807) ∧ (0 ≤ q.2 ∧ q.2 ≤ 18446744073709551615) := by
  obtain ⟨a, e, h1, h2, h3, h4⟩ := h.each i q hq
  rw [← add_add'] at h2
  have hs : (a.add (i * 2)).spot = none := by
    unfold World.cell? at h1
    split at h1
    · split at h1
      · cases h1
      · rename_i hs; simpa using hs
    · cases h1
  obtain ⟨ad, had⟩ : ∃ ad, a.add (i * 2) = ad := ⟨_, rfl⟩
  rw [had] at h1 h2 hs
  obtain ⟨g, o, sp⟩ := ad
  simp only at hs
  subst hs
  rw [Ord.add_at] at h2
  exact ⟨a, g, o, e, had, h1, h2, h3, h4⟩
theorem add_block (a : Addr) (j : Nat) : (a.add j).block = a.block := by
  unfold Addr.add
  split <;> rfl
theorem PcV.keep {w w' : World} {A : Option Addr} {n c : Nat} {qs : List (Int × Int)} {H : Nat → Prop} (h : PcV w A n c qs) (hk : Kept H w w') (hf : ∀ a, A = some a → ¬ H a.block) : PcV w' A n c qs :=
  ⟨h.nil, h.nc, h.cm, h.len, fun i q hq => by
    obtain ⟨a, e, h1, h2, h3⟩ := h.each i q hq
    exact ⟨a, e, hk.cell h1 (by rw [add_block]; exact hf a e), hk.cell h2 (by rw [add_block]; exact hf a e), h3⟩⟩
def pcT (A : Option Addr) (n c : Nat) (us : List (Int × Int)) : Thing where
  I := fun w => PcV w A n c us ∧ ∀ a, A = some a → a.block < w.heap.size
  F := fun k => ∃ a, A = some a ∧ a.block = k
  keep := fun w w' H h hk hf => ⟨h.1.keep hk (fun a e => hf _ ⟨a, e, rfl⟩), fun a e => Nat.lt_of_lt_of_le (h.2 a e) hk.size⟩
  lt := fun w h k hk => by
    obtain ⟨a, e, rfl⟩ := hk
    exact h.2 a e
theorem pcI {w : World} {A : Option Addr} {n c : Nat} {us : List (Int × Int)} (h : (pcT A n c us).I w) : PcV w A n c us := h.1
/-- What a row of pieces of one's own is. -/
theorem pc_own {w : World} {base : Nat} {e : TypeId} {v : Value} {n : Nat} {us : List (Int × Int)} (h : w.ownsRow base e 2 v n (flatP us)) (hl : us.length = n) (hb : ∀ u ∈ us, (-9223372036854775808 ≤ u.1 ∧ u.1 ≤ 9223372036854775807) ∧ (0 ≤ u.2 ∧ u.2 ≤ 18446744073709551615)) :
    ∃ A cap, v = .slice A n cap ∧ (pcT A n cap us).I w ∧ ∀ k, (pcT A n cap us).F k → base ≤ k := by
  have hge := own_ge h
  rcases h.2 with ⟨h1, h2⟩ | ⟨g, cap, cur, h1, h2, h3, h4, h5, h6, h7⟩
  · subst h2
    refine ⟨none, 0, by rw [h1], ⟨⟨fun _ => ⟨rfl, rfl⟩, Nat.le_refl _, by decide, hl, fun i q hq => ?_⟩, (fun a e => by cases e)⟩, (fun k hk => by obtain ⟨a, e, _⟩ := hk; cases e)⟩
    have := (List.getElem?_eq_some_iff.1 hq).1
    omega
  · subst h1
    have hg : g < w.heap.size := own_lt h rfl
    refine ⟨some ⟨g, 0, none⟩, cap, rfl, ⟨⟨(fun e => by cases e), h4, by assumption, hl, fun i q hq => ⟨_, rfl, (own_pc h hq).1, (own_pc h hq).2, hb q (List.mem_of_getElem? hq)⟩⟩, (fun a e => by injection e with e; subst e; exact hg)⟩, fun k hk => ?_⟩
    obtain ⟨a, e, rfl⟩ := hk
    injection e with e
    subst e
    exact hge g rfl
end Go.Proofs.YtmdkdjgamhaeoaaGreat.Pcs
/- Rows of structs of any kind, K cells each: what lies in them, as a thing; a row of one's own. For stages from 18 on. By hand. -/
namespace Go.Proofs.YtmdkdjgamhaeoaaGreat.Lw
open Go Go.RowKit
set_option linter.unusedVariables false
theorem flat_len {α : Type} {K : Nat} {enc : α → List Value} (hK : ∀ q, (enc q).length = K) : ∀ qs : List α, (qs.flatMap enc).length = qs.length * K
  | [] => by simp
  | q :: qs => by
    rw [List.flatMap_cons, List.length_append, hK, flat_len hK qs, List.length_cons, Nat.succ_mul, Nat.add_comm]
theorem flat_get {α : Type} {K : Nat} {enc : α → List Value} (hK : ∀ q, (enc q).length = K) : ∀ {qs : List α} {i : Nat} {q : α} {j : Nat} {v : Value}, qs[i]? = some q → (enc q)[j]? = some v → (qs.flatMap enc)[i * K + j]? = some v
  | [], i, q, j, v, h, _ => by simp at h
  | p :: qs, 0, q, j, v, h, hv => by
    have e : p = q := by simpa using h
    subst e
    have hj := (List.getElem?_eq_some_iff.1 hv).1
    rw [Nat.zero_mul, Nat.zero_add, List.flatMap_cons, List.getElem?_append_left hj]
    exact hv
  | p :: qs, i + 1, q, j, v, h, hv => by
    have ih := flat_get hK (qs := qs) (i := i) (q := q) (j := j) (v := v) (by simpa using h) hv
    rw [List.flatMap_cons, List.getElem?_append_right (by rw [hK, Nat.succ_mul]; omega), hK]
    have e : (i + 1) * K + j - K = i * K + j := by rw [Nat.succ_mul]; omega
    rw [e]
    exact ih
theorem flat_snoc {α : Type} (enc : α → List Value) (qs : List α) (q : α) : (qs ++ [q]).flatMap enc = qs.flatMap enc ++ enc q := by
  rw [List.flatMap_append]
  simp
/-- What lies in a row of structs. -/
structure StV {α : Type} (K : Nat) (enc : α → List Value) (w : World) (A : Option Addr) (n c : Nat) (qs : List α) : Prop where
  nil : A = none → n = 0 ∧ c = 0
  nc : n ≤ c
  cm : c ≤ maxLen
  len : qs.length = n
  each : ∀ (i : Nat) q, qs[i]? = some q → ∃ a, A = some a ∧ ∀ (j : Nat) v, (enc q)[j]? = some v → w.cell? (a.add (i * K + j)) = some v
theorem add_block' (a : Addr) (j : Nat) : (a.add j).block = a.block := by
  unfold Addr.add
  split <;> rfl
theorem StV.keep {α : Type} {K : Nat} {enc : α → List Value} {w w' : World} {A : Option Addr} {n c : Nat} {qs : List α} {H : Nat → Prop} (h : StV K enc w A n c qs) (hk : Kept H w w') (hf : ∀ a, A = some a → ¬ H a.block) : StV K enc w' A n c qs :=
  ⟨h.nil, h.nc, h.cm, h.len, fun i q hq => by
    obtain ⟨a, e, h1⟩ := h.each i q hq
    exact ⟨a, e, fun j v hv => hk.cell (h1 j v hv) (by rw [add_block']; exact hf a e)⟩⟩
theorem StV.up {α : Type} {K : Nat} {enc : α → List Value} {w w' : World} {A : Option Addr} {n c : Nat} {qs : List α} (h : StV K enc w A n c qs) (hb : Below w.heap.size w w') : StV K enc w' A n c qs :=
  ⟨h.nil, h.nc, h.cm, h.len, fun i q hq => by
    obtain ⟨a, e, h1⟩ := h.each i q hq
    exact ⟨a, e, fun j v hv => cell_up (h1 j v hv) hb⟩⟩
/-- One of them, by its place. -/
theorem StV.at {α : Type} {K : Nat} {enc : α → List Value} {w : World} {A : Option Addr} {n c : Nat} {qs : List α} (h : StV K enc w A n c qs) {i : Nat} {q : α} (hq : qs[i]? = some q) {v0 : Value} (h0 : (enc q)[0]? = some v0) :
    ∃ (a : Addr) (g o : Nat), A = some a ∧ a.add (i * K) = ⟨g, o, none⟩ ∧ ∀ (j : Nat) v, (enc q)[j]? = some v → w.cell? ⟨g, o + j, none⟩ = some v := by
  obtain ⟨a, e, h1⟩ := h.each i q hq
  have h2 := h1 0 v0 h0
  rw [Nat.add_zero] at h2
  have hs : (a.add (i * K)).spot = none := by
    unfold World.cell? at h2
    split at h2
    · split at h2
      · cases h2
      · rename_i hs; simpa using hs
    · cases h2
  obtain ⟨ad, had⟩ : ∃ ad, a.add (i * K) = ad := ⟨_, rfl⟩
  rw [had] at hs
  obtain ⟨g, o, sp⟩ := ad
  simp only at hs
  subst hs
  refine ⟨a, g, o, e, had, fun j v hv => ?_⟩
  have h3 := h1 j v hv
  rw [← add_add', had, Ord.add_at] at h3
  exact h3
def stRowT {α : Type} (K : Nat) (enc : α → List Value) (A : Option Addr) (n c : Nat) (qs : List α) : Thing where
  I := fun w => StV K enc w A n c qs ∧ ∀ a, A = some a → a.block < w.heap.size
  F := fun k => ∃ a, A = some a ∧ a.block = k
  keep := fun w w' H h hk hf => ⟨h.1.keep hk (fun a e => hf _ ⟨a, e, rfl⟩), fun a e => Nat.lt_of_lt_of_le (h.2 a e) hk.size⟩
  lt := fun w h k hk => by
    obtain ⟨a, e, rfl⟩ := hk
    exact h.2 a e
theorem strI {α : Type} {K : Nat} {enc : α → List Value} {w : World} {A : Option Addr} {n c : Nat} {qs : List α} (h : (stRowT K enc A n c qs).I w) : StV K enc w A n c qs := h.1
/-- What a row of structs of one's own is. -/
theorem st_own {α : Type} {K : Nat} {enc : α → List Value} (hK : ∀ q, (enc q).length = K) {w : World} {base : Nat} {e : TypeId} {v : Value} {n : Nat} {qs : List α} (h : w.ownsRow base e K v n (qs.flatMap enc)) (hl : qs.length = n) :
    ∃ A cap, v = .slice A n cap ∧ (stRowT K enc A n cap qs).I w ∧ ∀ k, (stRowT K enc A n cap qs).F k → base ≤ k := by
  have hge := own_ge h
  rcases h.2 with ⟨h1, h2⟩ | ⟨g, cap, cur, h1, h2, h3, h4, h5, h6, h7⟩
  · subst h2
    refine ⟨none, 0, by rw [h1], ⟨⟨fun _ => ⟨rfl, rfl⟩, Nat.le_refl _, by decide, hl, fun i q hq => ?_⟩, (fun a e => by cases e)⟩, (fun k hk => by obtain ⟨a, e, _⟩ := hk; cases e)⟩
    have := (List.getElem?_eq_some_iff.1 hq).1
    omega
  · subst h1
    have hg : g < w.heap.size := own_lt h rfl
    refine ⟨some ⟨g, 0, none⟩, cap, rfl, ⟨⟨(fun e => by cases e), h4, by assumption, hl, fun i q hq => ⟨_, rfl, fun j v hv => h.cells (g := g) rfl _ _ (flat_get hK hq hv)⟩⟩, (fun a e => by injection e with e; subst e; exact hg)⟩, fun k hk => ?_⟩
    obtain ⟨a, e, rfl⟩ := hk
    injection e with e
    subst e
    exact hge g rfl
theorem st_nil {α : Type} (K : Nat) (enc : α → List Value) (w : World) : (stRowT K enc none 0 0 ([] : List α)).I w :=
  ⟨⟨fun _ => ⟨rfl, rfl⟩, Nat.le_refl _, by decide, rfl, fun i q hq => by simp at hq⟩, fun a e => by cases e⟩
end Go.Proofs.YtmdkdjgamhaeoaaGreat.Lw
/- Numbers of 128 bits: values, digits of sixteen bits, signs. -/
namespace Go.Proofs.YtmdkdjgamhaeoaaGreat.Wid
open Go.RowKit

theorem ret_int {k : IntKind} {a b : Int} (h : a = b) : Ending.returned (.int k a) = .returned (.int k b) := by rw [h]
theorem ret_two {k l : IntKind} {a b c d : Int} (h : a = b) (g : c = d) : Ending.returned (.tuple #[.int k a, .int l c]) = .returned (.tuple #[.int k b, .int l d]) := by rw [h, g]
theorem ret_agg {a b c d : Int} (h : a = b) (g : c = d) : Ending.returned (.agg #[.int .i64 a, .int .u64 c]) = .returned (.agg #[.int .i64 b, .int .u64 d]) := by rw [h, g]
theorem ret_wide {a b c d : Int} {p q : Bool} (h : a = b) (g : c = d) (k : p = q) : Ending.returned (.tuple #[.agg #[.int .i64 a, .int .u64 c], .bool p]) = .returned (.tuple #[.agg #[.int .i64 b, .int .u64 d], .bool q]) := by rw [h, g, k]
theorem ret_int_bool {a b : Int} {p q : Bool} (h : a = b) (k : p = q) : Ending.returned (.tuple #[.int .i64 a, .bool p]) = .returned (.tuple #[.int .i64 b, .bool q]) := by rw [h, k]

/-! ### values -/
/-- The number that a pair is. -/
def vl (p q : Int) : Int := p * 18446744073709551616 + q
def fit (z : Int) : Bool := decide (-170141183460469231731687303715884105728 ≤ z ∧ z < 170141183460469231731687303715884105728)
def fh (z : Int) : Int := if fit z = true then z / 18446744073709551616 else 0
def fl (z : Int) : Int := if fit z = true then z % 18446744073709551616 else 0
def fit64 (z : Int) : Bool := decide (-9223372036854775808 ≤ z ∧ z < 9223372036854775808)
def f64 (z : Int) : Int := if fit64 z = true then z else 0

theorem fit_yes {z : Int} (h0 : -170141183460469231731687303715884105728 ≤ z) (h1 : z < 170141183460469231731687303715884105728) : fit z = true ∧ fh z = z / 18446744073709551616 ∧ fl z = z % 18446744073709551616 := by
  have h : fit z = true := by unfold fit; simp; omega
  exact ⟨h, by unfold fh; rw [if_pos h], by unfold fl; rw [if_pos h]⟩
theorem fit_no {z : Int} (h : ¬ (-170141183460469231731687303715884105728 ≤ z ∧ z < 170141183460469231731687303715884105728)) : fit z = false ∧ fh z = 0 ∧ fl z = 0 := by
  have h : fit z = false := by unfold fit; simp; omega
  exact ⟨h, by unfold fh; rw [if_neg (by simp [h])], by unfold fl; rw [if_neg (by simp [h])]⟩
theorem fit64_yes {z : Int} (h0 : -9223372036854775808 ≤ z) (h1 : z < 9223372036854775808) : fit64 z = true ∧ f64 z = z := by
  have h : fit64 z = true := by unfold fit64; simp; omega
  exact ⟨h, by unfold f64; rw [if_pos h]⟩
theorem fit64_no {z : Int} (h : ¬ (-9223372036854775808 ≤ z ∧ z < 9223372036854775808)) : fit64 z = false ∧ f64 z = 0 := by
  have h : fit64 z = false := by unfold fit64; simp; omega
  exact ⟨h, by unfold f64; rw [if_neg (by simp [h])]⟩
theorem fh_bd (z : Int) : -9223372036854775808 ≤ fh z ∧ fh z ≤ 9223372036854775807 := by
  by_cases h : -170141183460469231731687303715884105728 ≤ z ∧ z < 170141183460469231731687303715884105728
  · rw [(fit_yes h.1 h.2).2.1]; omega
  · rw [(fit_no h).2.1]; omega
theorem fl_bd (z : Int) : 0 ≤ fl z ∧ fl z ≤ 18446744073709551615 := by
  by_cases h : -170141183460469231731687303715884105728 ≤ z ∧ z < 170141183460469231731687303715884105728
  · rw [(fit_yes h.1 h.2).2.2]; omega
  · rw [(fit_no h).2.2]; omega
/-- The pair of what fits is that number. -/
theorem vl_fit (z : Int) (h0 : -170141183460469231731687303715884105728 ≤ z) (h1 : z < 170141183460469231731687303715884105728) : vl (fh z) (fl z) = z := by
  rw [(fit_yes h0 h1).2.1, (fit_yes h0 h1).2.2]; unfold vl; omega
/-! ### signs of bits -/
theorem wrap_bv (x : BitVec 64) : IntKind.i64.wrap (x.toNat : Int) = x.toInt := by
  have h := x.isLt
  rw [IntKind.wrap_i64, BitVec.toInt_eq_toNat_cond]
  split <;> omega
theorem bv_neg (x : BitVec 64) : (x.toInt < 0) ↔ x.msb = true := by
  rw [BitVec.msb_eq_toInt]; simp
theorem bv_of (a : Int) (h0 : -9223372036854775808 ≤ a) (h1 : a ≤ 9223372036854775807) : (BitVec.ofInt 64 a).toInt = a := by
  rw [BitVec.toInt_ofInt]; simp [Int.bmod]; omega
theorem xor_i64 (a b : Int) : bits .xor .i64 a b = (BitVec.ofInt 64 a ^^^ BitVec.ofInt 64 b).toInt := wrap_bv _
theorem and_i64 (a b : Int) : bits .and .i64 a b = (BitVec.ofInt 64 a &&& BitVec.ofInt 64 b).toInt := wrap_bv _
theorem bv_bd (x : BitVec 64) : -9223372036854775808 ≤ x.toInt ∧ x.toInt ≤ 9223372036854775807 := by
  have := BitVec.toInt_lt (x := x); have := BitVec.le_toInt x; omega
theorem sgn (a b c d : Int) (a0 : -9223372036854775808 ≤ a) (a1 : a ≤ 9223372036854775807) (b0 : -9223372036854775808 ≤ b) (b1 : b ≤ 9223372036854775807)
    (c0 : -9223372036854775808 ≤ c) (c1 : c ≤ 9223372036854775807) (d0 : -9223372036854775808 ≤ d) (d1 : d ≤ 9223372036854775807) :
    (bits .and .i64 (bits .xor .i64 a b) (bits .xor .i64 c d) < 0) ↔ ((a < 0 ∧ 0 ≤ b ∨ 0 ≤ a ∧ b < 0) ∧ (c < 0 ∧ 0 ≤ d ∨ 0 ≤ c ∧ d < 0)) := by
  rw [and_i64, bv_neg, BitVec.msb_and, Bool.and_eq_true, xor_i64, xor_i64, ← bv_neg, ← bv_neg, bv_of _ (bv_bd _).1 (bv_bd _).2, bv_of _ (bv_bd _).1 (bv_bd _).2, bv_neg, bv_neg, BitVec.msb_xor, BitVec.msb_xor]
  have ea := bv_neg (BitVec.ofInt 64 a)
  have eb := bv_neg (BitVec.ofInt 64 b)
  have ec := bv_neg (BitVec.ofInt 64 c)
  have ed := bv_neg (BitVec.ofInt 64 d)
  rw [bv_of a a0 a1] at ea
  rw [bv_of b b0 b1] at eb
  rw [bv_of c c0 c1] at ec
  rw [bv_of d d0 d1] at ed
  generalize (BitVec.ofInt 64 a).msb = x at *
  generalize (BitVec.ofInt 64 b).msb = y at *
  generalize (BitVec.ofInt 64 c).msb = z at *
  generalize (BitVec.ofInt 64 d).msb = u at *
  cases x <;> cases y <;> cases z <;> cases u <;> simp at * <;> omega

/-! ### digits of sixteen bits -/
def dg (x : Int) (i : Nat) : Int := x / (65536 ^ i) % 65536
def cr (x y : Int) (i : Nat) : Int := (x % (65536 ^ i) + y % (65536 ^ i)) / (65536 ^ i)
end Go.Proofs.YtmdkdjgamhaeoaaGreat.Wid
/- Walks of layer 2, one function each: Base. -/
namespace Go.Proofs.YtmdkdjgamhaeoaaGreat.Wid
open Go.RowKit
set_option linter.unusedVariables false

theorem of_vals (n : Int) (h0 : -9223372036854775808 ≤ n) (h1 : n ≤ 9223372036854775807) : n / 9223372036854775808 = fh n ∧ IntKind.u64.wrap n = fl n := by
  rw [(fit_yes (z := n) (by omega) (by omega)).2.1, (fit_yes (z := n) (by omega) (by omega)).2.2, IntKind.wrap_u64]; omega
theorem u64_bd (x : Int) : 0 ≤ IntKind.u64.wrap x ∧ IntKind.u64.wrap x ≤ 18446744073709551615 := by rw [IntKind.wrap_u64]; omega
theorem hi_bd (x : Int) : -9223372036854775808 ≤ wrap64 x ∧ wrap64 x ≤ 9223372036854775807 ∧ (wrap64 x - x) % 18446744073709551616 = 0 := by unfold wrap64; omega
theorem add_far (p q r s : Int) (p0 : -9223372036854775808 ≤ p) (p1 : p ≤ 9223372036854775807) (q0 : 0 ≤ q) (q1 : q ≤ 18446744073709551615)
    (r0 : -9223372036854775808 ≤ r) (r1 : r ≤ 9223372036854775807) (s0 : 0 ≤ s) (s1 : s ≤ 18446744073709551615)
    (h : bits .and .i64 (bits .xor .i64 p (wrap64 ((IntKind.u64.wrap p + IntKind.u64.wrap r + (q + s) / 18446744073709551616) % 18446744073709551616))) (bits .xor .i64 r (wrap64 ((IntKind.u64.wrap p + IntKind.u64.wrap r + (q + s) / 18446744073709551616) % 18446744073709551616))) < 0) :
    0 = fh (vl p q + vl r s) ∧ 0 = fl (vl p q + vl r s) ∧ false = fit (vl p q + vl r s) := by
  have hh := hi_bd ((IntKind.u64.wrap p + IntKind.u64.wrap r + (q + s) / 18446744073709551616) % 18446744073709551616)
  rw [sgn _ _ _ _ p0 p1 hh.1 hh.2.1 r0 r1 hh.1 hh.2.1] at h
  generalize wrap64 ((IntKind.u64.wrap p + IntKind.u64.wrap r + (q + s) / 18446744073709551616) % 18446744073709551616) = H at *
  rw [IntKind.wrap_u64, IntKind.wrap_u64] at hh
  have := fit_no (z := vl p q + vl r s) (by unfold vl; omega)
  exact ⟨this.2.1.symm, this.2.2.symm, this.1.symm⟩
theorem add_near (p q r s : Int) (p0 : -9223372036854775808 ≤ p) (p1 : p ≤ 9223372036854775807) (q0 : 0 ≤ q) (q1 : q ≤ 18446744073709551615)
    (r0 : -9223372036854775808 ≤ r) (r1 : r ≤ 9223372036854775807) (s0 : 0 ≤ s) (s1 : s ≤ 18446744073709551615)
    (h : 0 ≤ bits .and .i64 (bits .xor .i64 p (wrap64 ((IntKind.u64.wrap p + IntKind.u64.wrap r + (q + s) / 18446744073709551616) % 18446744073709551616))) (bits .xor .i64 r (wrap64 ((IntKind.u64.wrap p + IntKind.u64.wrap r + (q + s) / 18446744073709551616) % 18446744073709551616)))) :
    wrap64 ((IntKind.u64.wrap p + IntKind.u64.wrap r + (q + s) / 18446744073709551616) % 18446744073709551616) = fh (vl p q + vl r s) ∧ (q + s) % 18446744073709551616 = fl (vl p q + vl r s) ∧ true = fit (vl p q + vl r s) := by
  have hh := hi_bd ((IntKind.u64.wrap p + IntKind.u64.wrap r + (q + s) / 18446744073709551616) % 18446744073709551616)
  have hx := sgn p _ r _ p0 p1 hh.1 hh.2.1 r0 r1 hh.1 hh.2.1
  generalize wrap64 ((IntKind.u64.wrap p + IntKind.u64.wrap r + (q + s) / 18446744073709551616) % 18446744073709551616) = H at *
  rw [IntKind.wrap_u64, IntKind.wrap_u64] at hh
  generalize bits .and .i64 (bits .xor .i64 p H) (bits .xor .i64 r H) = X at *
  have := fit_yes (z := vl p q + vl r s) (by unfold vl; omega) (by unfold vl; omega)
  rw [this.1, this.2.1, this.2.2]; unfold vl
  exact ⟨by omega, by omega, rfl⟩
theorem sub_far (p q r s : Int) (p0 : -9223372036854775808 ≤ p) (p1 : p ≤ 9223372036854775807) (q0 : 0 ≤ q) (q1 : q ≤ 18446744073709551615)
    (r0 : -9223372036854775808 ≤ r) (r1 : r ≤ 9223372036854775807) (s0 : 0 ≤ s) (s1 : s ≤ 18446744073709551615)
    (h : bits .and .i64 (bits .xor .i64 p r) (bits .xor .i64 p (wrap64 ((IntKind.u64.wrap p - IntKind.u64.wrap r + (q - s) / 18446744073709551616) % 18446744073709551616))) < 0) :
    0 = fh (vl p q - vl r s) ∧ 0 = fl (vl p q - vl r s) ∧ false = fit (vl p q - vl r s) := by
  have hh := hi_bd ((IntKind.u64.wrap p - IntKind.u64.wrap r + (q - s) / 18446744073709551616) % 18446744073709551616)
  rw [sgn _ _ _ _ p0 p1 r0 r1 p0 p1 hh.1 hh.2.1] at h
  generalize wrap64 ((IntKind.u64.wrap p - IntKind.u64.wrap r + (q - s) / 18446744073709551616) % 18446744073709551616) = H at *
  rw [IntKind.wrap_u64, IntKind.wrap_u64] at hh
  have := fit_no (z := vl p q - vl r s) (by unfold vl; omega)
  exact ⟨this.2.1.symm, this.2.2.symm, this.1.symm⟩
theorem sub_near (p q r s : Int) (p0 : -9223372036854775808 ≤ p) (p1 : p ≤ 9223372036854775807) (q0 : 0 ≤ q) (q1 : q ≤ 18446744073709551615)
    (r0 : -9223372036854775808 ≤ r) (r1 : r ≤ 9223372036854775807) (s0 : 0 ≤ s) (s1 : s ≤ 18446744073709551615)
    (h : 0 ≤ bits .and .i64 (bits .xor .i64 p r) (bits .xor .i64 p (wrap64 ((IntKind.u64.wrap p - IntKind.u64.wrap r + (q - s) / 18446744073709551616) % 18446744073709551616)))) :
    wrap64 ((IntKind.u64.wrap p - IntKind.u64.wrap r + (q - s) / 18446744073709551616) % 18446744073709551616) = fh (vl p q - vl r s) ∧ (q - s) % 18446744073709551616 = fl (vl p q - vl r s) ∧ true = fit (vl p q - vl r s) := by
  have hh := hi_bd ((IntKind.u64.wrap p - IntKind.u64.wrap r + (q - s) / 18446744073709551616) % 18446744073709551616)
  have hx := sgn p r p _ p0 p1 r0 r1 p0 p1 hh.1 hh.2.1
  generalize wrap64 ((IntKind.u64.wrap p - IntKind.u64.wrap r + (q - s) / 18446744073709551616) % 18446744073709551616) = H at *
  rw [IntKind.wrap_u64, IntKind.wrap_u64] at hh
  generalize bits .and .i64 (bits .xor .i64 p r) (bits .xor .i64 p H) = X at *
  have := fit_yes (z := vl p q - vl r s) (by unfold vl; omega) (by unfold vl; omega)
  rw [this.1, this.2.1, this.2.2]; unfold vl
  exact ⟨by omega, by omega, rfl⟩

theorem below_box {w w' : World} {o : Obj} (h : Below (w.heap.size + 1) (w.alloc o) w') : Below w.heap.size w w' :=
  ((Below.refl _ _).alloc (Nat.le_refl _) _).trans (h.mono (by omega))
theorem below_call {B : Nat} {W0 wa w1 : World} (h : Below B W0 wa) (hb : Below wa.heap.size wa w1) (hB : B ≤ W0.heap.size) : Below B W0 w1 :=
  h.trans (hb.mono (Nat.le_trans hB h.size))
theorem int_vals (p q : Int) (p0 : -9223372036854775808 ≤ p) (p1 : p ≤ 9223372036854775807) (q0 : 0 ≤ q) (q1 : q ≤ 18446744073709551615) :
    (fh (wrap64 q) = p ∧ fl (wrap64 q) = q → fit64 (vl p q) = true ∧ f64 (vl p q) = wrap64 q) ∧ (¬ (fh (wrap64 q) = p ∧ fl (wrap64 q) = q) → fit64 (vl p q) = false ∧ f64 (vl p q) = 0) := by
  have hh := hi_bd q
  have hf := fit_yes (z := wrap64 q) (by omega) (by omega)
  rw [hf.2.1, hf.2.2]
  generalize wrap64 q = n at *
  constructor
  · intro h
    have := fit64_yes (z := vl p q) (by unfold vl; omega) (by unfold vl; omega)
    refine ⟨this.1, ?_⟩
    rw [this.2]; unfold vl; omega
  · intro h
    exact fit64_no (by unfold vl; omega)
theorem plus_vals (a b : Int) (a0 : -9223372036854775808 ≤ a) (a1 : a ≤ 9223372036854775807) (b0 : -9223372036854775808 ≤ b) (b1 : b ≤ 9223372036854775807) :
    vl (fh (vl (fh a) (fl a) + vl (fh b) (fl b))) (fl (vl (fh a) (fl a) + vl (fh b) (fl b))) = a + b ∧ vl (fh (vl (fh a) (fl a) - vl (fh b) (fl b))) (fl (vl (fh a) (fl a) - vl (fh b) (fl b))) = a - b := by
  rw [vl_fit a (by omega) (by omega), vl_fit b (by omega) (by omega), vl_fit _ (by omega) (by omega), vl_fit _ (by omega) (by omega)]
  exact ⟨rfl, rfl⟩
theorem below_alloc {w w' : World} (h : Below w.heap.size w w') (o : Obj) : Below w.heap.size w (w'.alloc o) := h.alloc h.size o
end Go.Proofs.YtmdkdjgamhaeoaaGreat.Wid
/- Walks of layer 2, one function each: Add. -/
namespace Go.Proofs.YtmdkdjgamhaeoaaGreat.Wid
open Go.RowKit
set_option linter.unusedVariables false

theorem run_add64 (x y c : Int) (w : World) (x0 : 0 ≤ x) (y0 : 0 ≤ y) (c0 : 0 ≤ c) (c1 : c ≤ 1) :
    (callFunc 87 #[.int .u64 x, .int .u64 y, .int .u64 c]).run Tryz.prog w =
      .ok (.value (.tuple #[.int .u64 ((x + y + c) % 18446744073709551616), .int .u64 ((x + y + c) / 18446744073709551616)])) w := by
  rw [run_callFunc_extern Tryz.func87 (by kernel_rfl) (by kernel_rfl) (by kernel_rfl) (e := add64Entry) (by kernel_rfl), Go.run_add64 x y c x0 y0 c0 c1]
  rfl
theorem run_add64_0 (x y : Int) (w : World) (x0 : 0 ≤ x) (y0 : 0 ≤ y) :
    (callFunc 87 #[.int .u64 x, .int .u64 y, .int .u64 0]).run Tryz.prog w =
      .ok (.value (.tuple #[.int .u64 ((x + y) % 18446744073709551616), .int .u64 ((x + y) / 18446744073709551616)])) w := by
  rw [run_add64 x y 0 w x0 y0 (by omega) (by omega), Int.add_zero]
theorem add_any (p q r s : Int) (w : World) (p0 : -9223372036854775808 ≤ p) (p1 : p ≤ 9223372036854775807) (q0 : 0 ≤ q) (q1 : q ≤ 18446744073709551615)
    (r0 : -9223372036854775808 ≤ r) (r1 : r ≤ 9223372036854775807) (s0 : 0 ≤ s) (s1 : s ≤ 18446744073709551615) :
    Calls Tryz.prog 72 #[.agg #[.int .i64 p, .int .u64 q], .agg #[.int .i64 r, .int .u64 s]] w fun e w' => e = .returned (.tuple #[.agg #[.int .i64 (fh (vl p q + vl r s)), .int .u64 (fl (vl p q + vl r s))], .bool (fit (vl p q + vl r s))]) ∧ Below w.heap.size w w' := by
  have k0 : 0 ≤ (q + s) / 18446744073709551616 := by omega
  have k1 : (q + s) / 18446744073709551616 ≤ 1 := by omega
  go_enter Tryz.func72, Tryz.ntmps72
  go_wp2_with (first | simp only [run_add64_0 q s _ q0 s0] | simp only [run_add64 _ _ _ _ (u64_bd p).1 (u64_bd r).1 k0 k1])
  · have h := add_far p q r s p0 p1 q0 q1 r0 r1 s0 s1 (by assumption)
    go_returns
    exact ⟨ret_wide h.1 h.2.1 h.2.2, by go_grown⟩
  · have h := add_near p q r s p0 p1 q0 q1 r0 r1 s0 s1 (by assumption)
    go_returns
    exact ⟨ret_wide h.1 h.2.1 h.2.2, by go_grown⟩
end Go.Proofs.YtmdkdjgamhaeoaaGreat.Wid
/- Digits of sixteen bits: what the walks write, told as digits. Printed by wip/gen/wid.py. -/
namespace Go.Proofs.YtmdkdjgamhaeoaaGreat.Wid
open Go.RowKit
def dl (z : Int) : List Int := [dg z 0, dg z 1, dg z 2, dg z 3, dg z 4, dg z 5, dg z 6, dg z 7, dg z 8, dg z 9]
end Go.Proofs.YtmdkdjgamhaeoaaGreat.Wid
