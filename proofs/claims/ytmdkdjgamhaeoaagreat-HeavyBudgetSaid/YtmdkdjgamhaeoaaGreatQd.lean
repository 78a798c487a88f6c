/- Texts that statements lean on, put together: GrdNew, GrdCode, GrdJoin, GrdDoc, GrdPair, Rows2, ShpDef, ShpCode. -/
import Derived.Test.YtmdkdjgamhaeoaaGreatQa
import Derived.Test.YtmdkdjgamhaeoaaGreatQb
import Derived.Test.YtmdkdjgamhaeoaaGreatQc
import Derived.Deep.QuietTactic
import Derived.BigQuiet
import Derived.Deep.LoopGhost
import Derived.Deep.RegionHeld3
import Derived.Laws.Cover3
import Derived.WalkMore
import Derived.Laws.OwnMore
import Derived.Deep.DeepCutAuto
/- The walks of the document's own answers for layer 6: New, Cells, Same. Printed by wip/gen/grd.py. -/
namespace Go.Proofs.YtmdkdjgamhaeoaaGreat.Grd
open Go Go.RowKit Lw
set_option linter.unusedVariables false
/-- A new grid: all is 0, and all of it is new memory. -/
def Fresh (w : World) (b : Nat) (hdr : Value) (R : List Row) : Prop := ∀ q, RF b hdr R q → w.heap.size ≤ q
def Zeros (m n : Nat) (R : List Row) : Prop := nums R = List.replicate m (List.replicate n 0)
theorem flat_next (L : List (List Int)) (k : Nat) (zs : List Int) (h : L[k]? = some zs) : (L.take (k + 1)).flatten = (L.take k).flatten ++ zs := by
  obtain ⟨hk, e⟩ := List.getElem?_eq_some_iff.1 h
  rw [List.take_succ_eq_append_getElem hk, List.flatten_append, e]
  simp
theorem flat_len (L : List (List Int)) (k m : Nat) (h : ∀ zs ∈ L, zs.length ≤ m) : (L.take k).flatten.length ≤ k * m := by
  induction k with
  | zero => simp
  | succ k ih =>
    rcases Nat.lt_or_ge k L.length with h1 | h1
    · rw [flat_next L k _ (List.getElem?_eq_getElem h1), List.length_append, Nat.succ_mul]
      have := h _ (List.getElem_mem h1)
      omega
    · rw [List.take_of_length_le (by omega)]
      rw [List.take_of_length_le h1] at ih
      rw [Nat.succ_mul]
      omega
end Go.Proofs.YtmdkdjgamhaeoaaGreat.Grd
/- The walks of package grid (the code's): a grid is a block of its rows, columns and one row of all cells. -/
namespace Go.Proofs.YtmdkdjgamhaeoaaGreat.Grd
open Go Go.RowKit Lw
set_option linter.unusedVariables false
set_option linter.unusedSimpArgs false
/-- A grid of the code at p, in the blocks F: m rows, n columns, the numbers L. -/
def PG (w : World) (p : Addr) (F : Nat → Prop) (m n : Nat) (L : List (List Int)) : Prop :=
  Dims m n L ∧ ∃ (b g cap : Nat), p = ⟨b, 0, none⟩ ∧ w.heap[b]? = some (.cells #[.int .i64 m, .int .i64 n, .slice (some ⟨g, 0, none⟩) (m * n) cap] 178 (0, 0)) ∧ Ord.Mid w g 0 L.flatten ∧ m * n ≤ cap ∧ cap ≤ maxLen ∧ b ≠ g ∧ F = (fun k => k = b ∨ k = g)
theorem PG.dims {w : World} {p : Addr} {F : Nat → Prop} {m n : Nat} {L : List (List Int)} (h : PG w p F m n L) : Dims m n L := h.1
theorem size_of_heap {w : World} {b : Nat} {o : Obj} (h : w.heap[b]? = some o) : b < w.heap.size := by
  rcases Nat.lt_or_ge b w.heap.size with h1 | h1
  · exact h1
  · rw [Array.getElem?_eq_none h1] at h; cases h
def pgT (p : Addr) (F : Nat → Prop) (m n : Nat) (L : List (List Int)) : Thing where
  I := fun w => PG w p F m n L
  F := F
  keep := fun w w' H h hk hf => by
    obtain ⟨hd, b, g, cap, rfl, hb, hm, h1, h2, h3, rfl⟩ := h
    exact ⟨hd, b, g, cap, rfl, hk.heap hb (hf b (.inl rfl)), hm.keep hk (hf g (.inr rfl)), h1, h2, h3, rfl⟩
  lt := fun w h k hk => by
    obtain ⟨hd, b, g, cap, rfl, hb, hm, h1, h2, h3, rfl⟩ := h
    rcases hk with rfl | rfl
    · exact size_of_heap hb
    · exact hm.lt
theorem clamped_any (n M : Int) (m : Nat) (w : World) (hM : M = m) (n0 : -9223372036854775808 ≤ n) (n1 : n ≤ 9223372036854775807) (hm : m ≤ 128) :
    Calls Tryz.prog 91 #[.int .i64 n, .int .i64 M] w fun e w' => e = .returned (.int .i64 (cl n m)) ∧ w' = w := by
  go_enter Tryz.func91, Tryz.ntmps91
  go_wp2
  all_goals
    go_ret
    refine ⟨ret_i ?_, rfl⟩
    unfold cl
    omega
theorem cl_le (n : Int) (m : Nat) : cl n m ≤ m := by unfold cl; omega
theorem zeros_flat2 (m n : Nat) : (zerosL m n).flatten = List.replicate (m * n) 0 := by
  unfold zerosL
  rw [List.flatten_replicate_replicate]
theorem mid_made (w : World) (q : Nat) (e : TypeId) : Ord.Mid (w.alloc (.cells (madeCells #[.int .i64 0] q) e)) w.heap.size 0 (List.replicate q 0) := by
  refine ⟨_, _, heap_alloc_new w _, fun j v hv => ?_⟩
  have h2 := toList_madeCells_one (.int .i64 0) q
  rw [List.getElem?_replicate] at hv
  split at hv
  · rename_i hj
    injection hv with hv
    subst hv
    rw [← Array.getElem?_toList, h2, Nat.zero_add, List.getElem?_replicate, if_pos hj]
  · cases hv
set_option maxRecDepth 100000 in
theorem new_any (rows width : Int) (w : World) (r0 : -9223372036854775808 ≤ rows) (r1 : rows ≤ 9223372036854775807) (c0 : -9223372036854775808 ≤ width) (c1 : width ≤ 9223372036854775807) :
    Calls Tryz.prog 76 #[.int .i64 rows, .int .i64 width] w fun e w' => ∃ (p : Addr) (F : Nat → Prop), e = .returned (.pointer (some p)) ∧ PG w' p F (cl rows 8) (cl width 128) (zerosL (cl rows 8) (cl width 128)) ∧ (∀ k, F k → w.heap.size ≤ k) ∧ Below w.heap.size w w' := by
  obtain ⟨i0, hi, hz0, hz1, hz2⟩ := info_parts i64_info
  obtain ⟨m, hm⟩ : ∃ m, m = cl rows 8 := ⟨_, rfl⟩
  obtain ⟨n, hn⟩ : ∃ n, n = cl width 128 := ⟨_, rfl⟩
  have m8 : m ≤ 8 := hm ▸ cl_le rows 8
  have n128 : n ≤ 128 := hn ▸ cl_le width 128
  have C1 := Lib.hid (fun w => hm ▸ clamped_any rows 8 8 w rfl r0 r1 (by omega))
  have C2 := Lib.hid (fun w => hn ▸ clamped_any width 128 128 w rfl c0 c1 (by omega))
  rw [← hm, ← hn]
  obtain ⟨q, hq⟩ : ∃ q, q = m * n := ⟨_, rfl⟩
  have hqi : (m : Int) * n = (q : Int) := by rw [hq]; simp
  have hq1 : q ≤ 1024 := by rw [hq]; exact Nat.le_trans (Nat.mul_le_mul m8 n128) (by decide)
  have HD := Lib.hid (dims_zeros m8 n128)
  have HZ := Lib.hid (zeros_flat2 m n)
  have HQ := Lib.hid hq
  clear hm hn hq
  have hmk : ∀ w, (Instr.makeSlice 54 (.int .i64 (q : Int)) (.int .i64 (q : Int))).run Tryz.prog w = .ok (.slice (some ⟨w.heap.size, 0, none⟩) q q) (w.alloc (.cells (madeCells #[.int .i64 0] q) 2)) := by
    intro w
    have h := run_make (P := Tryz.prog) w 54 2 i0 (.int .i64 0) i64s_u hi hz0 .i64 .i64 q q (by omega) (Int.le_refl _) (by rw [hz2]; omega) (by omega)
    rw [hz1] at h
    simpa [Value.cells] using h
  clear hi hz0 hz1 hz2
  go_enter Tryz.func76, Tryz.ntmps76
  go_wp2_with (go_at_call 91; (first | with_reducible refine (C1.out _).mono ?_ | with_reducible refine (C2.out _).mono ?_); rintro e w' ⟨rfl, rfl⟩)
  go_ret
  have hb1 := Lw.below_alloc (Below.refl w'.heap.size w') (.cells (madeCells #[.int .i64 0] q) 2)
  have hb2 := hb1.alloc hb1.size (.cells #[.int .i64 m, .int .i64 n, .slice (some ⟨w'.heap.size, 0, none⟩) q q] 178)
  have hm := mid_made w' q 2
  refine ⟨⟨w'.heap.size + 1, 0, none⟩, fun k => k = w'.heap.size + 1 ∨ k = w'.heap.size, rfl, ⟨HD.out, w'.heap.size + 1, w'.heap.size, q, rfl, ?_, ?_, by rw [HQ.out]; exact Nat.le_refl _, by unfold maxLen; omega, by omega, rfl⟩, fun k hk => by omega, hb2⟩
  · have h := heap_alloc_new (w'.alloc (.cells (madeCells #[.int .i64 0] q) 2)) (.cells #[.int .i64 m, .int .i64 n, .slice (some ⟨w'.heap.size, 0, none⟩) q q] 178)
    rw [World.size_alloc, HQ.out] at h
    rw [HQ.out]
    exact h
  · rw [HZ.out, ← HQ.out]
    exact hm.up (Lw.below_alloc (Below.refl _ _) _)
theorem grd_cell {w : World} {b : Nat} {vs : Array Value} {e : TypeId} (h : w.heap[b]? = some (.cells vs e (0, 0))) (i : Nat) {v : Value} (hv : vs[i]? = some v) : w.cell? ⟨b, i, none⟩ = some v := by simp [World.cell?, h, hv]
theorem rows_eq (p : Addr) (F : Nat → Prop) (m n : Nat) (L : List (List Int)) (w : World) (h : PG w p F m n L) :
    Calls Tryz.prog 150 #[.pointer (some p)] w fun e w' => e = .returned (.int .i64 m) ∧ w' = w := by
  obtain ⟨hd, b, g, cap, rfl, hb, -⟩ := h
  have c0 := grd_cell hb 0 (v := .int .i64 m) rfl
  clear hd hb
  go_enter Tryz.func150, Tryz.ntmps150
  go_wp2
  go_ret
  exact ⟨rfl, rfl⟩
theorem width_eq (p : Addr) (F : Nat → Prop) (m n : Nat) (L : List (List Int)) (w : World) (h : PG w p F m n L) :
    Calls Tryz.prog 136 #[.pointer (some p)] w fun e w' => e = .returned (.int .i64 n) ∧ w' = w := by
  obtain ⟨hd, b, g, cap, rfl, hb, -⟩ := h
  have c0 := grd_cell hb 1 (v := .int .i64 n) rfl
  clear hd hb
  go_enter Tryz.func136, Tryz.ntmps136
  go_wp2
  go_ret
  exact ⟨rfl, rfl⟩
theorem rows_any (p : Addr) (F : Nat → Prop) (m n : Nat) (L : List (List Int)) (w : World) (h : PG w p F m n L) :
    Calls Tryz.prog 150 #[.pointer (some p)] w fun e w' => e = .returned (.int .i64 m) ∧ Below w.heap.size w w' :=
  (rows_eq p F m n L w h).mono fun e w' h => ⟨h.1, h.2 ▸ Below.refl _ _⟩
/-! ### The cells one behind the other -/
theorem flat_get {n : Nat} : ∀ {L : List (List Int)} (k j : Nat), (∀ r ∈ L, r.length = n) → k < L.length → j < n → L.flatten[k * n + j]? = (L[k]?.getD [])[j]?
  | [], k, j, _, hk, _ => by simp at hk
  | r :: L, 0, j, hr, _, hj => by
    have h := hr r (by simp)
    rw [List.flatten_cons, Nat.zero_mul, Nat.zero_add, List.getElem?_append_left (by omega)]
    rfl
  | r :: L, k + 1, j, hr, hk, hj => by
    have h := hr r (by simp)
    have ih := flat_get (L := L) k j (fun q hq => hr q (by simp [hq])) (by simpa using hk) hj
    have e : (k + 1) * n + j - r.length = k * n + j := by rw [Nat.succ_mul]; omega
    rw [List.flatten_cons, List.getElem?_append_right (by rw [Nat.succ_mul]; omega), e, ih]
    rfl
theorem flat_set {n : Nat} (x : Int) : ∀ {L : List (List Int)} (k j : Nat), (∀ r ∈ L, r.length = n) → j < n → (L.modify k (fun r => r.set j x)).flatten = L.flatten.set (k * n + j) x ∨ L.length ≤ k
  | [], k, j, _, _ => .inr (Nat.zero_le _)
  | r :: L, 0, j, hr, hj => by
    left
    have h := hr r (by simp)
    simp only [List.modify_zero_cons, List.flatten_cons, Nat.zero_mul, Nat.zero_add]
    rw [List.set_append_left _ _ (by omega)]
  | r :: L, k + 1, j, hr, hj => by
    have h := hr r (by simp)
    rcases flat_set x (L := L) k j (fun q hq => hr q (by simp [hq])) hj with ih | ih
    · left
      have e : (k + 1) * n + j - r.length = k * n + j := by rw [Nat.succ_mul]; omega
      simp only [List.modify_succ_cons, List.flatten_cons]
      rw [ih, List.set_append_right _ _ (by rw [Nat.succ_mul]; omega), e]
    · right; simp; omega
theorem flat_at {m n : Nat} {L : List (List Int)} (h : Dims m n L) {row col : Int} (r0 : 0 ≤ row) (r1 : row < m) (c0 : 0 ≤ col) (c1 : col < n) : L.flatten[row.toNat * n + col.toNat]? = some (at2 L row col) := by
  have hk : row.toNat < L.length := by rw [h.len]; omega
  have hl : (L[row.toNat]?.getD []).length = n := by
    rw [List.getElem?_eq_getElem hk]
    exact (h.rows _ (List.getElem_mem hk)).1
  rw [flat_get _ _ (fun r hr => (h.rows r hr).1) hk (by omega)]
  unfold at2
  rw [if_neg (by omega), List.getElem?_eq_getElem (by omega)]
  rfl
theorem flat_put {m n : Nat} {L : List (List Int)} (h : Dims m n L) {row col : Int} (x : Int) (r0 : 0 ≤ row) (r1 : row < m) (c0 : 0 ≤ col) (c1 : col < n) : (setL L row col x).flatten = L.flatten.set (row.toNat * n + col.toNat) x := by
  have hin : in2 L row col = true := by rw [in2_dims h]; exact decide_eq_true ⟨r0, r1, c0, c1⟩
  unfold setL
  rw [if_pos hin]
  rcases flat_set x row.toNat col.toNat (fun r hr => (h.rows r hr).1) (by omega) with e | e
  · exact e
  · rw [h.len] at e; omega
theorem place_bd {m n : Nat} {row col : Int} (m8 : m ≤ 8) (n128 : n ≤ 128) (r0 : 0 ≤ row) (r1 : row < m) (c0 : 0 ≤ col) (c1 : col < n) : 0 ≤ row * n ∧ row * n ≤ 1024 ∧ row * n + col < (m * n : Nat) ∧ row * n + col = ((row.toNat * n + col.toNat : Nat) : Int) := by
  obtain ⟨r, rfl⟩ : ∃ r : Nat, row = r := ⟨row.toNat, by omega⟩
  have h1 : (r + 1) * n ≤ m * n := Nat.mul_le_mul_right _ (by omega)
  have h2 : m * n ≤ 8 * 128 := Nat.mul_le_mul m8 n128
  rw [Nat.succ_mul] at h1
  have e : (r : Int) * n = ((r * n : Nat) : Int) := by simp
  simp only [e, Int.toNat_natCast]
  omega
/-- Where a cell stands. -/
def plc (n : Nat) (row col : Int) (b : Bool) : Int := if b = true then row * n + col else 0
theorem place_any (p : Addr) (F : Nat → Prop) (m n : Nat) (L : List (List Int)) (row col : Int) (w : World) (h : PG w p F m n L)
    (r0 : -9223372036854775808 ≤ row) (r1 : row ≤ 9223372036854775807) (c0 : -9223372036854775808 ≤ col) (c1 : col ≤ 9223372036854775807) :
    Calls Tryz.prog 141 #[.pointer (some p), .int .i64 row, .int .i64 col] w fun e w' => e = .returned (.tuple #[.int .i64 (plc n row col (in2 L row col)), .bool (in2 L row col)]) ∧ w' = w := by
  have e := in2_dims h.1 row col
  have m8 := h.1.m8
  have n128 := h.1.n128
  obtain ⟨hd, b, g, cap, rfl, hb, -⟩ := h
  have k0 := grd_cell hb 0 (v := .int .i64 m) rfl
  have k1 := grd_cell hb 1 (v := .int .i64 n) rfl
  clear hd hb
  by_cases h1 : row < 0
  · have e2 : in2 L row col = false := by rw [e]; exact decide_eq_false (by omega)
    rw [e2]
    clear e e2
    go_enter Tryz.func141, Tryz.ntmps141
    go_wp2
    go_ret2
    exact ⟨rfl, rfl⟩
  by_cases h2 : (m : Int) ≤ row
  · have e2 : in2 L row col = false := by rw [e]; exact decide_eq_false (by omega)
    rw [e2]
    clear e e2
    go_enter Tryz.func141, Tryz.ntmps141
    go_wp2
    go_ret2
    exact ⟨rfl, rfl⟩
  by_cases h3 : col < 0
  · have e2 : in2 L row col = false := by rw [e]; exact decide_eq_false (by omega)
    rw [e2]
    clear e e2
    go_enter Tryz.func141, Tryz.ntmps141
    go_wp2
    go_ret2
    exact ⟨rfl, rfl⟩
  by_cases h4 : (n : Int) ≤ col
  · have e2 : in2 L row col = false := by rw [e]; exact decide_eq_false (by omega)
    rw [e2]
    clear e e2
    go_enter Tryz.func141, Tryz.ntmps141
    go_wp2
    go_ret2
    exact ⟨rfl, rfl⟩
  have e2 : in2 L row col = true := by rw [e]; exact decide_eq_true (by omega)
  rw [e2]
  obtain ⟨p0, p1, p2, p3⟩ := place_bd (row := row) (col := col) m8 n128 (by omega) (by omega) (by omega) (by omega)
  clear e e2 p2 p3
  go_enter Tryz.func141, Tryz.ntmps141
  go_wp2
  go_ret2
  exact ⟨rfl, rfl⟩
theorem at_no {L : List (List Int)} {m n : Nat} (h : Dims m n L) {row col : Int} (hi : in2 L row col = false) : at2 L row col = 0 := by
  apply at2_out
  rw [in2_dims h] at hi
  have hi := of_decide_eq_false hi
  rw [h.len]
  by_cases h1 : 0 ≤ row ∧ row < m
  · have h2 : row.toNat < L.length := by rw [h.len]; omega
    have e : (L[row.toNat]?.getD []).length = n := by
      rw [List.getElem?_eq_getElem h2]
      exact (h.rows _ (List.getElem_mem h2)).1
    rw [e]
    omega
  · omega
theorem at_any (p : Addr) (F : Nat → Prop) (m n : Nat) (L : List (List Int)) (row col : Int) (w : World) (h : PG w p F m n L)
    (r0 : -9223372036854775808 ≤ row) (r1 : row ≤ 9223372036854775807) (c0 : -9223372036854775808 ≤ col) (c1 : col ≤ 9223372036854775807) :
    Calls Tryz.prog 138 #[.pointer (some p), .int .i64 row, .int .i64 col] w fun e w' => e = .returned (.int .i64 (at2 L row col)) ∧ Below w.heap.size w w' := by
  have C := Lib.hid (place_any p F m n L row col w h r0 r1 c0 c1)
  have hd := h.1
  obtain ⟨-, b, g, cap, rfl, hb, hm, hc, hx, -⟩ := h
  have k2 := grd_cell hb 2 (v := .slice (some ⟨g, 0, none⟩) (m * n) cap) rfl
  have hmn : m * n ≤ 1024 := Nat.mul_le_mul hd.m8 hd.n128
  obtain ⟨q, hq⟩ : ∃ q, q = m * n := ⟨_, rfl⟩
  rw [← hq] at k2 hmn hc
  cases hi : in2 L row col with
  | false =>
    have e := at_no hd hi
    rw [hi] at C
    rw [e]
    clear hd hm hb hi e hq
    go_enter Tryz.func138, Tryz.ntmps138
    go_wp2_with (go_at_call 141; ((with_reducible refine C.out.mono ?_)); rintro e w' ⟨rfl, rfl⟩)
    go_ret
    exact ⟨rfl, Below.refl _ _⟩
  | true =>
    have hi2 := hi
    rw [in2_dims hd] at hi2
    obtain ⟨g0, g1, g2, g3⟩ := of_decide_eq_true hi2
    obtain ⟨p0, p1, p2, p3⟩ := place_bd hd.m8 hd.n128 g0 g1 g2 g3
    have hv := flat_at hd g0 g1 g2 g3
    obtain ⟨ad, had⟩ : ∃ ad : Addr, (⟨g, 0, none⟩ : Addr) = ad := ⟨_, rfl⟩
    have hcell := hm.rd.at hv
    obtain ⟨k, hk⟩ : ∃ k, k = row.toNat * n + col.toNat := ⟨_, rfl⟩
    rw [← hk] at hcell p3
    have hkq : k < q := by omega
    have e1 : plc n row col true = k := p3
    rw [hi, e1] at C
    rw [had] at k2 hcell
    clear hd hm hb hi hi2 e1 p0 p1 p2 p3 hv had hk hq
    go_enter Tryz.func138, Tryz.ntmps138
    go_wp2_with (go_at_call 141; ((with_reducible refine C.out.mono ?_)); rintro e w' ⟨rfl, rfl⟩)
    go_ret
    exact ⟨rfl, Below.refl _ _⟩
theorem put_any (p : Addr) (F : Nat → Prop) (m n : Nat) (L : List (List Int)) (row col x : Int) (w : World) (h : PG w p F m n L)
    (r0 : -9223372036854775808 ≤ row) (r1 : row ≤ 9223372036854775807) (c0 : -9223372036854775808 ≤ col) (c1 : col ≤ 9223372036854775807) (x0 : -9223372036854775808 ≤ x) (x1 : x ≤ 9223372036854775807) :
    Calls Tryz.prog 137 #[.pointer (some p), .int .i64 row, .int .i64 col, .int .i64 x] w fun e w' => e = .returned (.bool (in2 L row col)) ∧ ∃ F', PG w' p F' m n (setL L row col x) ∧ Kept F w w' ∧ (∀ k, F' k → F k ∨ w.heap.size ≤ k) := by
  have C := Lib.hid (place_any p F m n L row col w h r0 r1 c0 c1)
  have HP := Lib.hid h
  have hd := h.1
  obtain ⟨-, b, g, cap, rfl, hb, hm, hc, hx, hbg, rfl⟩ := h
  have k2 := grd_cell hb 2 (v := .slice (some ⟨g, 0, none⟩) (m * n) cap) rfl
  have hmn : m * n ≤ 1024 := Nat.mul_le_mul hd.m8 hd.n128
  obtain ⟨q, hq⟩ : ∃ q, q = m * n := ⟨_, rfl⟩
  rw [← hq] at k2 hmn hc
  cases hi : in2 L row col with
  | false =>
    have e : setL L row col x = L := by unfold setL; rw [hi]; rfl
    rw [hi] at C
    rw [e]
    clear hd hm hb hi e hq
    go_enter Tryz.func137, Tryz.ntmps137
    go_wp2_with (go_at_call 141; ((with_reducible refine C.out.mono ?_)); rintro e w' ⟨rfl, rfl⟩)
    go_ret
    exact ⟨rfl, _, HP.out, Kept.refl _ _, fun k hk => .inl hk⟩
  | true =>
    have hi2 := hi
    rw [in2_dims hd] at hi2
    obtain ⟨g0, g1, g2, g3⟩ := of_decide_eq_true hi2
    obtain ⟨p0, p1, p2, p3⟩ := place_bd hd.m8 hd.n128 g0 g1 g2 g3
    have hv := flat_at hd g0 g1 g2 g3
    have hs := flat_put hd x g0 g1 g2 g3
    obtain ⟨ad, had⟩ : ∃ ad : Addr, (⟨g, 0, none⟩ : Addr) = ad := ⟨_, rfl⟩
    have hcell := hm.rd.at hv
    obtain ⟨k, hk⟩ : ∃ k, k = row.toNat * n + col.toNat := ⟨_, rfl⟩
    rw [← hk] at hcell p3 hs
    have hset := hm.set k x
    have hfz := hm.frozen (0 + k)
    have hkept : Kept (fun q => q = b ∨ q = g) w (w.setCell ⟨g, 0 + k, none⟩ (.int .i64 x)) := (Kept.refl _ w).set (.inl (.inr rfl)) _ _
    have hb2 : (w.setCell ⟨g, 0 + k, none⟩ (.int .i64 x)).heap[b]? = some (.cells #[.int .i64 m, .int .i64 n, .slice (some ⟨g, 0, none⟩) (m * n) cap] 178 (0, 0)) := ((Kept.refl (fun q => q = g) w).set (.inl rfl) _ _).heap hb hbg
    have HE : Hid (PG (w.setCell ⟨g, 0 + k, none⟩ (.int .i64 x)) ⟨b, 0, none⟩ (fun q => q = b ∨ q = g) m n (setL L row col x)) := Lib.hid ⟨hd.set row col x0 x1, b, g, cap, rfl, hb2, by rw [hs]; exact hset, by rw [← hq]; exact hc, hx, hbg, rfl⟩
    have HK := Lib.hid hkept
    have hkq : k < q := by omega
    have e1 : plc n row col true = k := p3
    rw [hi, e1] at C
    rw [← Ord.add_at, had] at hfz HE HK
    rw [had] at k2 hcell
    clear hd hm hb hi hi2 e1 p0 p1 p2 p3 hv had hk hq hset hkept hs hb2
    go_enter Tryz.func137, Tryz.ntmps137
    go_wp2_with (go_at_call 141; ((with_reducible refine C.out.mono ?_)); rintro e w' ⟨rfl, rfl⟩)
    go_ret
    exact ⟨rfl, _, HE.out, HK.out, fun k hk => .inl hk⟩
theorem pg_alloc {w : World} {p : Addr} {F : Nat → Prop} {m n : Nat} {L : List (List Int)} (h : PG w p F m n L) (o : Obj) : PG (w.alloc o) p F m n L :=
  (pgT p F m n L).keep w _ (fun _ => False) h (Kept.of_below (Lw.below_alloc (Below.refl _ _) o)) (fun _ _ h => h)
theorem pg_up {w w' : World} {p : Addr} {F : Nat → Prop} {m n : Nat} {L : List (List Int)} (h : PG w p F m n L) (hb : Below w.heap.size w w') : PG w' p F m n L :=
  (pgT p F m n L).keep w _ (fun _ => False) h (Kept.of_below hb) (fun _ _ h => h)
end Go.Proofs.YtmdkdjgamhaeoaaGreat.Grd
/- The walk of the document's own answer Join for layer 6. Printed by wip/gen/grdjoin.py. -/
namespace Go.Proofs.YtmdkdjgamhaeoaaGreat.Grd
open Go Go.RowKit Lw
set_option linter.unusedVariables false
/-- Rows of one's own, behind a slice of headers. -/
structure RO (w : World) (B : Nat) (hdr : Value) (R : List Row) : Prop where
  outer : w.ownsRow B 54 1 hdr R.length (R.map rowHd)
  rows : ∀ r ∈ R, w.ownsRow B 2 1 (rowHd r) r.2.2.length (r.2.2.map (Value.int .i64))
  apart : ∀ r ∈ R, hdr.ownBlock ≠ some r.1
  nd : (R.map (·.1)).Nodup
theorem RO.push {w w4 : World} {B : Nat} {hdr hdr' : Value} {R : List Row} {g c : Nat} {zs : List Int} (h : RO w B hdr R) (hk : Kept (fun q => hdr.ownBlock = some q) w w4)
    (ho : w4.ownsRow B 54 1 hdr' (R.length + 1) (R.map rowHd ++ [rowHd (g, c, zs)]))
    (hr : w4.ownsRow B 2 1 (rowHd (g, c, zs)) zs.length (zs.map (Value.int .i64))) (hg : w.heap.size ≤ g)
    (hh : hdr'.ownBlock = hdr.ownBlock ∨ ∃ q, hdr'.ownBlock = some q ∧ w.heap.size ≤ q ∧ q ≠ g) : RO w4 B hdr' (R ++ [(g, c, zs)]) := by
  have hold : ∀ q, hdr.ownBlock = some q → q < w.heap.size := fun q hq => own_lt h.outer hq
  have hrow : ∀ r ∈ R, r.1 < w.heap.size := fun r hr => own_lt (h.rows r hr) rfl
  refine ⟨by simpa using ho, ?_, ?_, ?_⟩
  · intro r hrm
    rcases List.mem_append.1 hrm with h1 | h1
    · exact hk.own (h.rows r h1) (fun q hq e => by
        simp [rowHd, Value.ownBlock] at hq
        exact h.apart r h1 (by rw [hq, e]))
    · simp at h1
      subst h1
      exact hr
  · intro r hrm
    rcases List.mem_append.1 hrm with h1 | h1
    · rcases hh with h2 | ⟨q, h2, h3, h4⟩
      · rw [h2]; exact h.apart r h1
      · rw [h2]; intro e; injection e with e; have := hrow r h1; omega
    · simp at h1
      subst h1
      rcases hh with h2 | ⟨q, h2, h3, h4⟩
      · rw [h2]; intro e; have := hold _ e; simp only at this; omega
      · rw [h2]; intro e; injection e with e; exact h4 e
  · rw [List.map_append, List.nodup_append]
    refine ⟨h.nd, by simp, ?_⟩
    intro x hx y hy e
    simp at hy
    subst hy
    subst e
    obtain ⟨r, hr, e⟩ := List.mem_map.1 hx
    have := hrow r hr
    omega
theorem RO.keep {F : Nat → Prop} {w w' : World} {B : Nat} {hdr : Value} {R : List Row} (h : RO w B hdr R) (k : Kept F w w') (hf : ∀ q, B ≤ q → ¬ F q) : RO w' B hdr R where
  outer := k.own h.outer (fun q hq => hf q (own_ge h.outer q hq))
  rows := fun r hr => k.own (h.rows r hr) (fun q hq => hf q (own_ge (h.rows r hr) q hq))
  apart := h.apart
  nd := h.nd
/-- Laid into a grid's block that lies below. -/
theorem RO.laid {w : World} {B b : Nat} {hdr old : Value} {R : List Row} (h : RO w B hdr R) (hb : b < B) (hc : w.heap[b]? = some (.cells #[old] 124 (0, 0))) : RG (w.setCell ⟨b, 0, none⟩ hdr) b hdr R := by
  have hk : Kept (fun q => q = b) w (w.setCell ⟨b, 0, none⟩ hdr) := Kept.set (F := fun q => q = b) (Kept.refl _ w) (.inl rfl) 0 _
  have h2 := h.keep hk (fun q hq e => by omega)
  refine ⟨?_, own_mono h2.outer (Nat.zero_le _), fun r hr => own_mono (h2.rows r hr) (Nat.zero_le _), ?_, fun r hr => ⟨?_, h2.apart r hr⟩, h2.nd⟩
  · have := heap_setCell_same w b 0 _ _ hdr hc
    simpa using this
  · intro e; have := own_ge h2.outer b e; omega
  · have := own_ge (h2.rows r hr) r.1 rfl; omega
end Go.Proofs.YtmdkdjgamhaeoaaGreat.Grd
/- The document's grid as a thing: what its calls answer, and turn. -/
namespace Go.Proofs.YtmdkdjgamhaeoaaGreat.Grd
open Go Go.RowKit Lw
set_option linter.unusedVariables false
def DG (w : World) (q : Addr) (G : Nat → Prop) (m n : Nat) (L : List (List Int)) : Prop :=
  ∃ b hdr R, q = ⟨b, 0, none⟩ ∧ RG w b hdr R ∧ nums R = L ∧ (∀ k, G k ↔ RF b hdr R k) ∧ Dims m n L
def dgT (q : Addr) (G : Nat → Prop) (m n : Nat) (L : List (List Int)) : Thing where
  I := fun w => DG w q G m n L
  F := G
  keep := fun w w' H h hk hf => by
    obtain ⟨b, hdr, R, e, hg, hn, hG, hd⟩ := h
    exact ⟨b, hdr, R, e, hg.keep hk (fun k hk' => hf k ((hG k).2 hk')), hn, hG, hd⟩
  lt := fun w h k hk => by
    obtain ⟨b, hdr, R, e, hg, hn, hG, hd⟩ := h
    exact hg.blt ((hG k).1 hk)
theorem DG.dims {w : World} {q : Addr} {G : Nat → Prop} {m n : Nat} {L : List (List Int)} (h : DG w q G m n L) : Dims m n L := by
  obtain ⟨b, hdr, R, e, hg, hn, hG, hd⟩ := h
  exact hd
end Go.Proofs.YtmdkdjgamhaeoaaGreat.Grd
/- The walks of package grid (the code's): a grid that another one is put to: Plus, Minus. -/
namespace Go.Proofs.YtmdkdjgamhaeoaaGreat.Grd
open Go Go.RowKit Lw
set_option linter.unusedVariables false
set_option linter.unusedSimpArgs false
theorem kept_low {w w2 w5 : World} {g : Nat} (h : Kept (fun q => q = g) w2 w5) (hb : Below w.heap.size w w2) (hg : w.heap.size < g) : Below w.heap.size w w5 :=
  h.low hb hb.size (fun q hq => by omega)
/-- The first k of the numbers X are joined with those of Y. -/
def mix (s : Int) (X Y : List Int) (k : Nat) : List Int := (rowS s X Y).take k ++ X.drop k
/-- The first k sums fit. -/
def fitK (s : Int) (X Y : List Int) (k : Nat) : Prop := ((rowS s X Y).take k).all Wid.fit64 = true
end Go.Proofs.YtmdkdjgamhaeoaaGreat.Grd
/- Rows of numbers behind a slice of headers, each read alone: a thing that grows by append. For every stage. -/
namespace Go.Proofs.YtmdkdjgamhaeoaaGreat.Lw
open Go Go.RowKit Grd
set_option linter.unusedVariables false
structure RR (w : World) (B : Nat) (eo : TypeId) (hdr : Value) (R : List Row) : Prop where
  outer : w.ownsRow B eo 1 hdr R.length (R.map rowHd)
  rows : ∀ r ∈ R, B ≤ r.1 ∧ r.1 < w.heap.size ∧ r.2.2.length ≤ r.2.1 ∧ r.2.1 ≤ maxLen ∧ hdr.ownBlock ≠ some r.1 ∧ Rd .i64 w (some ⟨r.1, 0, none⟩) r.2.2
def RRF (hdr : Value) (R : List Row) (k : Nat) : Prop := hdr.ownBlock = some k ∨ ∃ r ∈ R, r.1 = k
theorem RR.keep {F : Nat → Prop} {w w' : World} {B : Nat} {eo : TypeId} {hdr : Value} {R : List Row} (h : RR w B eo hdr R) (k : Kept F w w') (hf : ∀ q, RRF hdr R q → ¬ F q) : RR w' B eo hdr R := by
  refine ⟨k.own h.outer (fun q hq => hf q (.inl hq)), fun r hr => ?_⟩
  obtain ⟨h1, h2, h3, h4, h5, h6⟩ := h.rows r hr
  exact ⟨h1, Nat.lt_of_lt_of_le h2 k.size, h3, h4, h5, h6.keep k (fun a ha => by injection ha with ha; subst ha; exact hf r.1 (.inr ⟨r, hr, rfl⟩))⟩
theorem RR.lt {w : World} {B : Nat} {eo : TypeId} {hdr : Value} {R : List Row} (h : RR w B eo hdr R) {k : Nat} (hk : RRF hdr R k) : k < w.heap.size := by
  rcases hk with hk | ⟨r, hr, rfl⟩
  · exact own_lt h.outer hk
  · exact (h.rows r hr).2.1
def rrT (B : Nat) (eo : TypeId) (hdr : Value) (R : List Row) : Thing where
  I := fun w => RR w B eo hdr R
  F := RRF hdr R
  keep := fun w w' H h hk hf => h.keep hk hf
  lt := fun w h k hk => h.lt hk
theorem RR.hd {w : World} {B : Nat} {eo : TypeId} {hdr : Value} {R : List Row} (h : RR w B eo hdr R) : ∃ A cap, hdr = .slice A R.length cap ∧ R.length ≤ cap ∧ cap ≤ maxLen ∧ (A = none → R.length = 0 ∧ cap = 0) ∧ ∀ j r, R[j]? = some r → ∃ ad, A = some ad ∧ w.cell? (ad.add j) = some (rowHd r) := by
  rcases h.outer.2 with ⟨h1, h2⟩ | ⟨g, cap, cur, h1, h2, h3, h4, h5, h6, h7⟩
  · refine ⟨none, 0, by rw [h1, h2], by omega, by simp, fun _ => ⟨h2, rfl⟩, fun j r hj => ?_⟩
    have := (List.getElem?_eq_some_iff.1 hj).1
    omega
  · refine ⟨some ⟨g, 0, none⟩, cap, h1, h4, h5, (fun h => by cases h), fun j r hj => ⟨_, rfl, ?_⟩⟩
    exact h.outer.cells (g := g) (by rw [h1]; rfl) j _ (by rw [List.getElem?_map, hj]; rfl)
/-- A row that was made is put behind the others. -/
theorem RR.push {w1 w4 : World} {B : Nat} {eo : TypeId} {hdr : Value} {R : List Row} {g cap gr c : Nat} {zs : List Int} (h : RR w1 B eo hdr R)
    (ho : w4.ownsRow B eo 1 (.slice (some ⟨g, 0, none⟩) (R.length + 1) cap) (R.length + 1) (R.map rowHd ++ [rowHd (gr, c, zs)]))
    (hk : Kept (fun q => hdr.ownBlock = some q) w1 w4) (hg : hdr.ownBlock = some g ∨ w1.heap.size ≤ g) (hB : B ≤ gr) (hlt : gr < w1.heap.size) (hap : hdr.ownBlock ≠ some gr)
    (hc : zs.length ≤ c) (hm : c ≤ maxLen) (hr : Rd .i64 w1 (some ⟨gr, 0, none⟩) zs) : RR w4 B eo (.slice (some ⟨g, 0, none⟩) (R.length + 1) cap) (R ++ [(gr, c, zs)]) := by
  refine ⟨by simpa using ho, fun r hrm => ?_⟩
  have hown : (Value.slice (some ⟨g, 0, none⟩) (R.length + 1) cap).ownBlock = some g := rfl
  rw [hown]
  rcases List.mem_append.1 hrm with h1 | h1
  · obtain ⟨a1, a2, a3, a4, a5, a6⟩ := h.rows r h1
    refine ⟨a1, Nat.lt_of_lt_of_le a2 hk.size, a3, a4, ?_, a6.keep hk (fun a ha => by injection ha with ha; subst ha; exact a5)⟩
    intro e
    injection e with e
    rcases hg with hg | hg
    · rw [e] at hg; exact a5 hg
    · omega
  · simp at h1
    subst h1
    refine ⟨hB, Nat.lt_of_lt_of_le hlt hk.size, hc, hm, ?_, hr.keep hk (fun a ha => by injection ha with ha; subst ha; exact hap)⟩
    intro e
    injection e with e
    rcases hg with hg | hg
    · rw [e] at hg; exact hap hg
    · simp only at e; omega
end Go.Proofs.YtmdkdjgamhaeoaaGreat.Lw
/- What a stack is made of, in numbers: configs, levels, keys, columns. For every stage from 7 on. -/
namespace Go.Proofs.YtmdkdjgamhaeoaaGreat.Shp
open Go Go.RowKit Lw
set_option linter.unusedVariables false
structure Cfg where
  bt : Int
  rw : Int
  wd : Int
  md : Int
  sd : Int
structure Cfg.Ok (c : Cfg) : Prop where
  b0 : -9223372036854775808 ≤ c.bt
  b1 : c.bt ≤ 9223372036854775807
  r0 : -9223372036854775808 ≤ c.rw
  r1 : c.rw ≤ 9223372036854775807
  w0 : -9223372036854775808 ≤ c.wd
  w1 : c.wd ≤ 9223372036854775807
  m0 : -9223372036854775808 ≤ c.md
  m1 : c.md ≤ 9223372036854775807
  s0 : 0 ≤ c.sd
  s1 : c.sd ≤ 18446744073709551615
def IsRight (c : Cfg) : Prop := 1 ≤ c.bt ∧ c.bt ≤ 59 ∧ 1 ≤ c.rw ∧ c.rw ≤ 8 ∧ 1 ≤ c.wd ∧ c.wd ≤ 128 ∧ 1 ≤ c.md ∧ c.md ≤ 3
instance (c : Cfg) : Decidable (IsRight c) := by unfold IsRight; infer_instance
def right (c : Cfg) : Bool := decide (IsRight c)
def keys (c : Cfg) (l : Int) : Int := if IsRight c ∧ 0 ≤ l ∧ l ≤ c.bt then 2 ^ (c.bt - l).toNat else 0
def exactB (c : Cfg) (l : Int) : Bool := decide (1 ≤ keys c l ∧ keys c l ≤ c.wd)
def aboveOk (c : Cfg) (l k : Int) : Bool := decide (keys c l ≠ 0 ∧ k < keys c 0)
def aboveV (c : Cfg) (l k : Int) : Int := if aboveOk c l k = true then k / 2 ^ l.toNat else 0
def col (c : Cfg) (l k : Int) (r : Nat) : Int := Hsh.buck (Sed.pairA c.sd l r) (Sed.pairB c.sd l r) k c.wd
def cols (c : Cfg) (l k : Int) : List Int := if k < keys c l then (List.range c.rw.toNat).map (col c l k) else []
theorem pow_pos2 (n : Nat) : (1 : Int) ≤ 2 ^ n := by
  have h : (0 : Int) < 2 ^ n := Int.pow_pos (by omega)
  omega
theorem pow_le2 {a b : Nat} (h : a ≤ b) : (2 : Int) ^ a ≤ 2 ^ b := by
  obtain ⟨d, rfl⟩ := Nat.exists_eq_add_of_le h
  rw [Int.pow_add]
  have h1 := pow_pos2 a
  have h2 := pow_pos2 d
  have := Int.mul_le_mul (Int.le_refl ((2 : Int) ^ a)) h2 (by omega) (by omega)
  simpa using this
theorem pow59 {a : Nat} (h : a ≤ 59) : (2 : Int) ^ a ≤ 576460752303423488 := by
  have := pow_le2 h
  have e : (2 : Int) ^ 59 = 576460752303423488 := by decide
  rwa [e] at this
theorem keys_bd (c : Cfg) (l : Int) : 0 ≤ keys c l ∧ keys c l ≤ 576460752303423488 := by
  unfold keys
  split
  · rename_i h
    have h1 := pow_pos2 (c.bt - l).toNat
    have h2 := pow59 (a := (c.bt - l).toNat) (by have := h.1.2.1; omega)
    omega
  · omega
theorem keys_yes {c : Cfg} {l : Int} (h : IsRight c) (h0 : 0 ≤ l) (h1 : l ≤ c.bt) : keys c l = 2 ^ (c.bt - l).toNat := if_pos ⟨h, h0, h1⟩
theorem keys_no {c : Cfg} {l : Int} (h : ¬ (IsRight c ∧ 0 ≤ l ∧ l ≤ c.bt)) : keys c l = 0 := if_neg h
theorem keys_pos {c : Cfg} {l : Int} : 1 ≤ keys c l ↔ IsRight c ∧ 0 ≤ l ∧ l ≤ c.bt := by
  constructor
  · intro h
    refine Decidable.by_contra fun hn => ?_
    rw [keys_no hn] at h
    omega
  · intro h
    rw [keys_yes h.1 h.2.1 h.2.2]
    exact pow_pos2 _
theorem cols_len (c : Cfg) (l k : Int) : (cols c l k).length = if k < keys c l then c.rw.toNat else 0 := by
  unfold cols
  split <;> simp
theorem col_bd (c : Cfg) (l k : Int) (r : Nat) : -1 ≤ col c l k r ∧ col c l k r ≤ 2305843009213693950 := Hsh.buck_bd _ _ _ _
theorem cols_in (c : Cfg) (l k : Int) : ∀ v ∈ cols c l k, -9223372036854775808 ≤ v ∧ v ≤ 9223372036854775807 := by
  intro v hv
  unfold cols at hv
  split at hv
  · obtain ⟨r, _, rfl⟩ := List.mem_map.1 hv
    have := col_bd c l k r
    omega
  · simp at hv
theorem col_range {c : Cfg} (h : IsRight c) (l k : Int) (r : Nat) : 0 ≤ col c l k r ∧ col c l k r < c.wd := by
  unfold col Hsh.buck
  obtain ⟨_, _, _, _, h1, h2, _, _⟩ := h
  rw [if_neg (by omega)]
  exact ⟨Int.emod_nonneg _ (by omega), Int.emod_lt_of_pos _ (by omega)⟩
end Go.Proofs.YtmdkdjgamhaeoaaGreat.Shp
/- The walks of package shape (the code's): configs, levels, keys, columns, and the key above. -/
namespace Go.Proofs.YtmdkdjgamhaeoaaGreat.Shp
open Go Go.RowKit Lw
set_option linter.unusedVariables false
set_option linter.unusedSimpArgs false
theorem ret_bl {a b : Bool} (h : a = b) : Ending.returned (.bool a) = Ending.returned (.bool b) := by rw [h]
theorem ret_u {k : IntKind} {a b : Int} (h : a = b) : Ending.returned (.int k a) = Ending.returned (.int k b) := by rw [h]
/-- A number, the least and the greatest that it may be. -/
abbrev Lim3 := Int × Int × Int
def inside (q : Lim3) : Bool := decide (q.2.1 ≤ q.1 ∧ q.1 ≤ q.2.2)
def Lims (w : World) (a : Addr) (qs : List Lim3) : Prop := ∀ (i : Nat) (q : Lim3), qs[i]? = some q → ∃ g o : Nat, a.add (i * 3) = ⟨g, o, none⟩ ∧ w.cell? ⟨g, o, none⟩ = some (.int .i64 q.1) ∧ w.cell? ⟨g, o + 1, none⟩ = some (.int .i64 q.2.1) ∧ w.cell? ⟨g, o + 2, none⟩ = some (.int .i64 q.2.2)
theorem Lims.up {w w' : World} {a : Addr} {qs : List Lim3} (h : Lims w a qs) (hb : Below w.heap.size w w') : Lims w' a qs := fun i q hq => by
  obtain ⟨g, o, e, h1, h2, h3⟩ := h i q hq
  exact ⟨g, o, e, cell_up h1 hb, cell_up h2 hb, cell_up h3 hb⟩
theorem all_next {qs : List Lim3} {k : Nat} {q : Lim3} (hq : qs[k]? = some q) (h : (qs.take k).all inside = true) (hi : inside q = true) : (qs.take (k + 1)).all inside = true := by
  obtain ⟨h1, h2⟩ := List.getElem?_eq_some_iff.1 hq
  rw [List.take_succ_eq_append_getElem h1, List.all_append, h, h2]
  simp [hi]
theorem all_no {qs : List Lim3} {k : Nat} {q : Lim3} (hq : qs[k]? = some q) (hi : inside q = false) : qs.all inside = false := by
  rw [List.all_eq_false]
  exact ⟨q, List.mem_of_getElem? hq, by simp [hi]⟩
theorem within_any (a : Addr) (n c : Nat) (qs : List Lim3) (w : World) (hl : qs.length = n) (hnc : n ≤ c) (hcm : c ≤ maxLen) (h : Lims w a qs) :
    Calls Tryz.prog 55 #[.slice (some a) n c] w fun e w' => e = .returned (.bool (qs.all inside)) ∧ Below w.heap.size w w' := by
  have H := Lib.hid h
  have HL := Lib.hid hl
  unfold maxLen at hcm
  clear h hl
  go_enter Tryz.func55, Tryz.ntmps55
  go_wp2
  go_loopw [7] (fun i wr => ∃ (k : Nat), k ≤ n ∧ i = .int .i64 k ∧ Below w.heap.size w wr ∧ (qs.take k).all inside = true) (fun i _ => n - (intOf i).toNat)
  case atStart => exact ⟨0, Nat.zero_le _, rfl, Below.refl _ _, rfl⟩
  case round =>
    obtain ⟨k, hk, rfl, hb, hA⟩ := hrel
    have HB := Lib.hid hb
    have HA := Lib.hid hA
    clear hb hA
    by_cases hlt : k < n
    · obtain ⟨q1, hq1⟩ : ∃ q1, qs[k]? = some q1 := ⟨_, List.getElem?_eq_getElem (by rw [HL.out]; omega)⟩
      have HQ := Lib.hid hq1
      obtain ⟨g, o, hadd, c1, c2, c3⟩ := (H.out.up HB.out) k q1 hq1
      clear hq1
      obtain ⟨x, lo, hi⟩ := q1
      by_cases t1 : x < lo
      · have HN : Hid (inside (x, lo, hi) = false) := Lib.hid (decide_eq_false (by simp only; omega))
        go_wp2
        go_ret
        exact ⟨ret_bl (all_no HQ.out HN.out).symm, below_call HB.out (by (repeat' (first | (with_reducible exact Below.refl _ _) | (with_reducible assumption) | (with_reducible refine below_over ?_ _ _) | (with_reducible refine Lw.below_alloc ?_ _) | (with_reducible refine Below.drew ?_) | (with_reducible refine below_drewN ?_ _) | (with_reducible refine Below.setCell ?_ ?_ _) | go_size))) (Nat.le_refl _)⟩
      · by_cases t2 : hi < x
        · have HN : Hid (inside (x, lo, hi) = false) := Lib.hid (decide_eq_false (by simp only; omega))
          go_wp2
          go_ret
          exact ⟨ret_bl (all_no HQ.out HN.out).symm, below_call HB.out (by (repeat' (first | (with_reducible exact Below.refl _ _) | (with_reducible assumption) | (with_reducible refine below_over ?_ _ _) | (with_reducible refine Lw.below_alloc ?_ _) | (with_reducible refine Below.drew ?_) | (with_reducible refine below_drewN ?_ _) | (with_reducible refine Below.setCell ?_ ?_ _) | go_size))) (Nat.le_refl _)⟩
        · have HN : Hid (inside (x, lo, hi) = true) := Lib.hid (decide_eq_true (by simp only; omega))
          go_wp2
          go_roundw
          case rel => exact ⟨k + 1, by omega, by go_num, below_call HB.out (by (repeat' (first | (with_reducible exact Below.refl _ _) | (with_reducible assumption) | (with_reducible refine below_over ?_ _ _) | (with_reducible refine Lw.below_alloc ?_ _) | (with_reducible refine Below.drew ?_) | (with_reducible refine below_drewN ?_ _) | (with_reducible refine Below.setCell ?_ ?_ _) | go_size))) (Nat.le_refl _), all_next HQ.out HA.out HN.out⟩
          case measure => simp [intOf]; omega
    · have e1 : qs.take k = qs := List.take_of_length_le (by rw [HL.out]; omega)
      have HA2 := Lib.hid (e1 ▸ HA.out)
      clear e1
      go_wp2
      go_ret
      exact ⟨ret_bl HA2.out.symm, HB.out⟩
def isM (m : Int) : Bool := decide (1 ≤ m ∧ m ≤ 3)
theorem mode_eq (m : Int) (w : World) :
    Calls Tryz.prog 54 #[.int .i64 m] w fun e w' => e = .returned (.bool (isM m)) ∧ w' = w := by
  by_cases h1 : m = 1
  · subst h1
    go_enter Tryz.func54, Tryz.ntmps54
    go_wp2
    go_ret
    exact ⟨rfl, rfl⟩
  by_cases h2 : m = 2
  · subst h2
    go_enter Tryz.func54, Tryz.ntmps54
    go_wp2
    go_ret
    exact ⟨rfl, rfl⟩
  by_cases h3 : m = 3
  · subst h3
    go_enter Tryz.func54, Tryz.ntmps54
    go_wp2
    go_ret
    exact ⟨rfl, rfl⟩
  have HE : Hid (isM m = false) := Lib.hid (decide_eq_false (by omega))
  go_enter Tryz.func54, Tryz.ntmps54
  go_wp2
  go_ret
  exact ⟨ret_bl HE.out.symm, rfl⟩
theorem lims1 {w : World} {B : Nat} {x lo hi : Int} (h0 : w.cell? ⟨B, 0, none⟩ = some (.int .i64 x)) (h1 : w.cell? ⟨B, 1, none⟩ = some (.int .i64 lo)) (h2 : w.cell? ⟨B, 2, none⟩ = some (.int .i64 hi)) : Lims w ⟨B, 0, none⟩ [(x, lo, hi)] := by
  intro i q hq
  match i, hq with
  | 0, hq =>
    simp at hq
    subst hq
    exact ⟨B, 0, rfl, h0, h1, h2⟩
theorem lims3 {w : World} {B : Nat} {x lo hi x2 lo2 hi2 x3 lo3 hi3 : Int} (h0 : w.cell? ⟨B, 0, none⟩ = some (.int .i64 x)) (h1 : w.cell? ⟨B, 1, none⟩ = some (.int .i64 lo)) (h2 : w.cell? ⟨B, 2, none⟩ = some (.int .i64 hi))
    (h3 : w.cell? ⟨B, 3, none⟩ = some (.int .i64 x2)) (h4 : w.cell? ⟨B, 4, none⟩ = some (.int .i64 lo2)) (h5 : w.cell? ⟨B, 5, none⟩ = some (.int .i64 hi2))
    (h6 : w.cell? ⟨B, 6, none⟩ = some (.int .i64 x3)) (h7 : w.cell? ⟨B, 7, none⟩ = some (.int .i64 lo3)) (h8 : w.cell? ⟨B, 8, none⟩ = some (.int .i64 hi3)) : Lims w ⟨B, 0, none⟩ [(x, lo, hi), (x2, lo2, hi2), (x3, lo3, hi3)] := by
  intro i q hq
  match i, hq with
  | 0, hq =>
    simp at hq
    subst hq
    exact ⟨B, 0, rfl, h0, h1, h2⟩
  | 1, hq =>
    simp at hq
    subst hq
    exact ⟨B, 3, rfl, h3, h4, h5⟩
  | 2, hq =>
    simp at hq
    subst hq
    exact ⟨B, 6, rfl, h6, h7, h8⟩
theorem right_any (c : Cfg) (w : World) (h : c.Ok) :
    Calls Tryz.prog 31 #[.agg #[.int .i64 c.bt, .int .i64 c.rw, .int .i64 c.wd, .int .i64 c.md, .int .u64 c.sd]] w fun e w' => e = .returned (.bool (right c)) ∧ Below w.heap.size w w' := by
  cases hm : isM c.md with
  | false =>
    have HR : Hid (right c = false) := Lib.hid (decide_eq_false (fun hr => by
      have h2 := of_decide_eq_false hm
      exact h2 ⟨hr.2.2.2.2.2.2.1, hr.2.2.2.2.2.2.2⟩))
    clear h
    go_enter Tryz.func31, Tryz.ntmps31
    go_wp2_with (go_at_call 54; (with_reducible refine (mode_eq c.md _).mono ?_); rintro e w' ⟨rfl, rfl⟩; rw [hm])
    go_ret
    exact ⟨ret_bl HR.out.symm, by (repeat' (first | (with_reducible exact Below.refl _ _) | (with_reducible assumption) | (with_reducible refine below_over ?_ _ _) | (with_reducible refine Lw.below_alloc ?_ _) | (with_reducible refine Below.drew ?_) | (with_reducible refine below_drewN ?_ _) | (with_reducible refine Below.setCell ?_ ?_ _) | go_size))⟩
  | true =>
    have HR : Hid ((inside (c.bt, 1, 59) && (inside (c.rw, 1, 8) && inside (c.wd, 1, 128))) = right c) := Lib.hid (by
      obtain ⟨h2, h3⟩ := of_decide_eq_true hm
      rw [Bool.eq_iff_iff, Bool.and_eq_true, Bool.and_eq_true]
      unfold inside right
      rw [decide_eq_true_iff, decide_eq_true_iff, decide_eq_true_iff, decide_eq_true_iff]
      exact ⟨fun ⟨⟨a, b⟩, ⟨c, d⟩, e, f⟩ => ⟨a, b, c, d, e, f, h2, h3⟩, fun ⟨a, b, c, d, e, f, _, _⟩ => ⟨⟨a, b⟩, ⟨c, d⟩, e, f⟩⟩)
    clear h
    go_enter Tryz.func31, Tryz.ntmps31
    go_wp2_with (first
      | (go_at_call 54; (with_reducible refine (mode_eq c.md _).mono ?_); rintro e w' ⟨rfl, rfl⟩; rw [hm])
      | (go_at_call 55; (with_reducible refine (within_any _ 3 3 [(c.bt, 1, 59), (c.rw, 1, 8), (c.wd, 1, 128)] _ rfl (Nat.le_refl _) (by decide) (lims3 (by simp [go_sem]) (by simp [go_sem]) (by simp [go_sem]) (by simp [go_sem]) (by simp [go_sem]) (by simp [go_sem]) (by simp [go_sem]) (by simp [go_sem]) (by simp [go_sem]))).mono ?_); rintro e w' ⟨rfl, hb⟩; obtain ⟨bs, d, rfl⟩ := below_grow hb; clear hb))
    go_ret
    exact ⟨ret_bl HR.out, by (repeat' (first | (with_reducible exact Below.refl _ _) | (with_reducible assumption) | (with_reducible refine below_over ?_ _ _) | (with_reducible refine Lw.below_alloc ?_ _) | (with_reducible refine Below.drew ?_) | (with_reducible refine below_drewN ?_ _) | (with_reducible refine Below.setCell ?_ ?_ _) | go_size))⟩
def hasL (c : Cfg) (l : Int) : Bool := decide (IsRight c ∧ 0 ≤ l ∧ l ≤ c.bt)
theorem has_any (c : Cfg) (l : Int) (w : World) (h : c.Ok) :
    Calls Tryz.prog 62 #[.agg #[.int .i64 c.bt, .int .i64 c.rw, .int .i64 c.wd, .int .i64 c.md, .int .u64 c.sd], .int .i64 l] w fun e w' => e = .returned (.bool (hasL c l)) ∧ Below w.heap.size w w' := by
  have HO := Lib.hid h
  clear h
  cases hm : right c with
  | false =>
    have HR : Hid (hasL c l = false) := Lib.hid (decide_eq_false (fun hr => (of_decide_eq_false hm) hr.1))
    go_enter Tryz.func62, Tryz.ntmps62
    go_wp2_with (go_at_call 31; (with_reducible refine (right_any c _ HO.out).mono ?_); rintro e w' ⟨rfl, hb⟩; obtain ⟨bs, d, rfl⟩ := below_grow hb; clear hb; rw [hm])
    go_ret
    exact ⟨ret_bl HR.out.symm, by (repeat' (first | (with_reducible exact Below.refl _ _) | (with_reducible assumption) | (with_reducible refine below_over ?_ _ _) | (with_reducible refine Lw.below_alloc ?_ _) | (with_reducible refine Below.drew ?_) | (with_reducible refine below_drewN ?_ _) | (with_reducible refine Below.setCell ?_ ?_ _) | go_size))⟩
  | true =>
    have HR : Hid (inside (l, 0, c.bt) = hasL c l) := Lib.hid (by
      have h2 := of_decide_eq_true hm
      rw [Bool.eq_iff_iff]
      simp only [inside, hasL, decide_eq_true_eq]
      exact ⟨fun h => ⟨h2, h⟩, fun h => h.2⟩)
    go_enter Tryz.func62, Tryz.ntmps62
    go_wp2_with (first
      | (go_at_call 31; (with_reducible refine (right_any c _ HO.out).mono ?_); rintro e w' ⟨rfl, hb⟩; obtain ⟨bs, d, rfl⟩ := below_grow hb; clear hb; rw [hm])
      | (go_at_call 55; (with_reducible refine (within_any _ 1 1 [(l, 0, c.bt)] _ rfl (Nat.le_refl _) (by decide) (lims1 (by simp [go_sem]) (by simp [go_sem]) (by simp [go_sem]))).mono ?_); rintro e w' ⟨rfl, hb⟩; obtain ⟨bs, d, rfl⟩ := below_grow hb; clear hb))
    go_ret
    exact ⟨ret_bl HR.out, by (repeat' (first | (with_reducible exact Below.refl _ _) | (with_reducible assumption) | (with_reducible refine below_over ?_ _ _) | (with_reducible refine Lw.below_alloc ?_ _) | (with_reducible refine Below.drew ?_) | (with_reducible refine below_drewN ?_ _) | (with_reducible refine Below.setCell ?_ ?_ _) | go_size))⟩
theorem keys_any (c : Cfg) (l : Int) (w : World) (h : c.Ok) (l0 : -9223372036854775808 ≤ l) (l1 : l ≤ 9223372036854775807) :
    Calls Tryz.prog 34 #[.agg #[.int .i64 c.bt, .int .i64 c.rw, .int .i64 c.wd, .int .i64 c.md, .int .u64 c.sd], .int .i64 l] w fun e w' => e = .returned (.int .u64 (keys c l)) ∧ Below w.heap.size w w' := by
  have HO := Lib.hid h
  clear h
  cases hm : hasL c l with
  | false =>
    have HR : Hid (keys c l = 0) := Lib.hid (keys_no (of_decide_eq_false hm))
    go_enter Tryz.func34, Tryz.ntmps34
    go_wp2_with (go_at_call 62; (with_reducible refine (has_any c l _ HO.out).mono ?_); rintro e w' ⟨rfl, hb⟩; obtain ⟨bs, d, rfl⟩ := below_grow hb; clear hb; rw [hm])
    go_ret
    exact ⟨ret_u HR.out.symm, by (repeat' (first | (with_reducible exact Below.refl _ _) | (with_reducible assumption) | (with_reducible refine below_over ?_ _ _) | (with_reducible refine Lw.below_alloc ?_ _) | (with_reducible refine Below.drew ?_) | (with_reducible refine below_drewN ?_ _) | (with_reducible refine Below.setCell ?_ ?_ _) | go_size))⟩
  | true =>
    obtain ⟨h2, h3, h4⟩ := of_decide_eq_true hm
    have HR := Lib.hid (keys_yes h2 h3 h4)
    have kb := keys_bd c l
    have b59 := h2.2.1
    have w1 : IntKind.i64.wrap (c.bt - l) = c.bt - l := IntWalk.i64_in _ ⟨by omega, by omega⟩
    have w2 : IntKind.u64.wrap (2 ^ (c.bt - l).toNat) = keys c l := by rw [← HR.out]; exact IntWalk.u64_in _ ⟨by omega, by omega⟩
    clear h2
    go_enter Tryz.func34, Tryz.ntmps34
    go_wp2_with (go_at_call 62; (with_reducible refine (has_any c l _ HO.out).mono ?_); rintro e w' ⟨rfl, hb⟩; obtain ⟨bs, d, rfl⟩ := below_grow hb; clear hb; rw [hm])
    go_ret
    refine ⟨rfl, by (repeat' (first | (with_reducible exact Below.refl _ _) | (with_reducible assumption) | (with_reducible refine below_over ?_ _ _) | (with_reducible refine Lw.below_alloc ?_ _) | (with_reducible refine Below.drew ?_) | (with_reducible refine below_drewN ?_ _) | (with_reducible refine Below.setCell ?_ ?_ _) | go_size))⟩
set_option maxRecDepth 100000 in
theorem exact_any (c : Cfg) (l : Int) (w : World) (h : c.Ok) (l0 : -9223372036854775808 ≤ l) (l1 : l ≤ 9223372036854775807) :
    Calls Tryz.prog 56 #[.agg #[.int .i64 c.bt, .int .i64 c.rw, .int .i64 c.wd, .int .i64 c.md, .int .u64 c.sd], .int .i64 l] w fun e w' => e = .returned (.bool (exactB c l)) ∧ Below w.heap.size w w' := by
  have HO := Lib.hid h
  clear h
  cases hm : hasL c l with
  | true =>
    obtain ⟨h2, h3, h4⟩ := of_decide_eq_true hm
    have HR := Lib.hid (keys_pos.2 ⟨h2, h3, h4⟩)
    have w1 : IntKind.u64.wrap c.wd = c.wd := IntWalk.u64_in _ ⟨by have := h2.2.2.2.2.1; omega, by have := h2.2.2.2.2.2.1; omega⟩
    clear h2 h3 h4
    go_enter Tryz.func56, Tryz.ntmps56
    go_wp2
    go_region_held3 (fun w' => w'.cell? ⟨w.heap.size, 0, none⟩ = some (.int .i64 c.bt) ∧ w'.cell? ⟨w.heap.size, 1, none⟩ = some (.int .i64 c.rw) ∧ w'.cell? ⟨w.heap.size, 2, none⟩ = some (.int .i64 c.wd) ∧ w'.cell? ⟨w.heap.size, 3, none⟩ = some (.int .i64 c.md) ∧ w'.cell? ⟨w.heap.size, 4, none⟩ = some (.int .u64 c.sd)) (simp [go_sem]) (first
      | (go_at_call 62; (with_reducible refine (has_any c l _ HO.out).mono ?_); rintro e w' ⟨rfl, hb⟩; obtain ⟨bs, d, rfl⟩ := below_grow hb; clear hb; rw [hm])
      | (go_at_call 34; (with_reducible refine (keys_any c l _ HO.out l0 l1).mono ?_); rintro e w' ⟨rfl, hb⟩; obtain ⟨bs, d, rfl⟩ := below_grow hb; clear hb))
    all_goals go_wp2
    all_goals go_ret
    all_goals (refine ⟨ret_bl ?_, by (repeat' (first | (with_reducible exact Below.refl _ _) | (with_reducible assumption) | (with_reducible refine below_over ?_ _ _) | (with_reducible refine Lw.below_alloc ?_ _) | (with_reducible refine Below.drew ?_) | (with_reducible refine below_drewN ?_ _) | (with_reducible refine Below.setCell ?_ ?_ _) | go_size))⟩)
    all_goals (unfold exactB; have := HR.out; simp [this])
  | false =>
    have HR : Hid (exactB c l = false) := Lib.hid (decide_eq_false (by rw [keys_no (of_decide_eq_false hm)]; omega))
    go_enter Tryz.func56, Tryz.ntmps56
    go_wp2
    refine wp_region_held_drew (S := (fun w' => w'.cell? ⟨w.heap.size, 0, none⟩ = some (.int .i64 c.bt) ∧ w'.cell? ⟨w.heap.size, 1, none⟩ = some (.int .i64 c.rw) ∧ w'.cell? ⟨w.heap.size, 2, none⟩ = some (.int .i64 c.wd) ∧ w'.cell? ⟨w.heap.size, 3, none⟩ = some (.int .i64 c.md) ∧ w'.cell? ⟨w.heap.size, 4, none⟩ = some (.int .u64 c.sd))) (by kernel_rfl) (by simp [go_sem]) (fun hHeld => ?_)
    refine wpAnyH_take (i := 0) (v := ?_) rfl (by kernel_rfl) (by kernel_rfl) (by kernel_rfl) (fun _ _ _ h => h) (Or.inl ⟨by rfl, ?_⟩) hHeld ?_
    rotate_left
    · intro w hSw
      (try dsimp only at hSw)
      go_simp
      (try with_reducible rfl)
    (try simp only [List.getElem_toArray, List.getElem_cons_zero, List.getElem_cons_succ, Act.put, List.setIfInBounds_toArray, List.set_cons_zero, List.set_cons_succ])
    refine wpAnyH_take (i := 1) (v := ?_) rfl (by kernel_rfl) (by kernel_rfl) (by kernel_rfl) (fun _ _ _ h => h) (Or.inl ⟨by rfl, ?_⟩) hHeld ?_
    rotate_left
    · intro w hSw
      (try dsimp only at hSw)
      go_simp
      (try with_reducible rfl)
    (try simp only [List.getElem_toArray, List.getElem_cons_zero, List.getElem_cons_succ, Act.put, List.setIfInBounds_toArray, List.set_cons_zero, List.set_cons_succ])
    refine wpAnyH_ready (rs := [2]) (by kernel_rfl) (by simp) ?_
    refine AllReadyH.cons rfl (fun K hK => ?_) AllReadyH.nil
    go_simp
    (go_at_call 62; (with_reducible refine (has_any c l _ HO.out).mono ?_); rintro e w' ⟨rfl, hb⟩; obtain ⟨bs, d, rfl⟩ := below_grow hb; clear hb; rw [hm])
    refine hK.out _ _ (by simp [go_sem]) (fun hHeld => ?_)
    clear hK K
    (try simp only [List.getElem_toArray, List.getElem_cons_zero, List.getElem_cons_succ, Act.put, List.setIfInBounds_toArray, List.set_cons_zero, List.set_cons_succ])
    refine wpAnyH_take (i := 3) (v := ?_) rfl (by kernel_rfl) (by kernel_rfl) (by kernel_rfl) (fun _ _ _ h => h) (Or.inl ⟨by rfl, ?_⟩) hHeld ?_
    rotate_left
    · intro w hSw
      (try dsimp only at hSw)
      go_simp
      (try with_reducible rfl)
    (try simp only [List.getElem_toArray, List.getElem_cons_zero, List.getElem_cons_succ, Act.put, List.setIfInBounds_toArray, List.set_cons_zero, List.set_cons_succ])
    refine wpAnyH_take (i := 4) (v := undef) rfl (by kernel_rfl) (by kernel_rfl) (by kernel_rfl) (fun _ _ _ h => h) (Or.inr ⟨by rfl, rfl⟩) hHeld ?_
    (try simp only [List.getElem_toArray, List.getElem_cons_zero, List.getElem_cons_succ, Act.put, List.setIfInBounds_toArray, List.set_cons_zero, List.set_cons_succ])
    refine wpAnyH_take (i := 5) (v := undef) rfl (by kernel_rfl) (by kernel_rfl) (by kernel_rfl) (fun _ _ _ h => h) (Or.inr ⟨by rfl, rfl⟩) hHeld ?_
    (try simp only [List.getElem_toArray, List.getElem_cons_zero, List.getElem_cons_succ, Act.put, List.setIfInBounds_toArray, List.set_cons_zero, List.set_cons_succ])
    refine wpAnyH_take (i := 7) (v := undef) rfl (by kernel_rfl) (by kernel_rfl) (by kernel_rfl) (fun _ _ _ h => h) (Or.inr ⟨by rfl, rfl⟩) hHeld ?_
    (try simp only [List.getElem_toArray, List.getElem_cons_zero, List.getElem_cons_succ, Act.put, List.setIfInBounds_toArray, List.set_cons_zero, List.set_cons_succ])
    refine wpAnyH_take (i := 8) (v := undef) rfl (by kernel_rfl) (by kernel_rfl) (by kernel_rfl) (fun _ _ _ h => h) (Or.inr ⟨by rfl, rfl⟩) hHeld ?_
    (try simp only [List.getElem_toArray, List.getElem_cons_zero, List.getElem_cons_succ, Act.put, List.setIfInBounds_toArray, List.set_cons_zero, List.set_cons_succ])
    refine wpAnyH_take (i := 9) (v := undef) rfl (by kernel_rfl) (by kernel_rfl) (by kernel_rfl) (fun _ _ _ h => h) (Or.inr ⟨by rfl, rfl⟩) hHeld ?_
    (try simp only [List.getElem_toArray, List.getElem_cons_zero, List.getElem_cons_succ, Act.put, List.setIfInBounds_toArray, List.set_cons_zero, List.set_cons_succ])
    refine wpAnyH_ready (rs := [6]) (by kernel_rfl) (by simp) ?_
    refine AllReadyH.cons rfl (fun K hK => ?_) AllReadyH.nil
    go_simp
    refine hK.out _ _ (by simp [go_sem]) (fun hHeld => ?_)
    clear hK K
    (try simp only [List.getElem_toArray, List.getElem_cons_zero, List.getElem_cons_succ, Act.put, List.setIfInBounds_toArray, List.set_cons_zero, List.set_cons_succ])
    refine wpAnyH_take (i := 10) (v := undef) rfl (by kernel_rfl) (by kernel_rfl) (by kernel_rfl) (fun _ _ _ h => h) (Or.inr ⟨by rfl, rfl⟩) hHeld ?_
    (try simp only [List.getElem_toArray, List.getElem_cons_zero, List.getElem_cons_succ, Act.put, List.setIfInBounds_toArray, List.set_cons_zero, List.set_cons_succ])
    refine wpAnyH_take (i := 11) (v := ?_) rfl (by kernel_rfl) (by kernel_rfl) (by kernel_rfl) (fun _ _ _ h => h) (Or.inl ⟨by rfl, ?_⟩) hHeld ?_
    rotate_left
    · intro w hSw
      (try dsimp only at hSw)
      go_simp
      (try with_reducible rfl)
    (try simp only [List.getElem_toArray, List.getElem_cons_zero, List.getElem_cons_succ, Act.put, List.setIfInBounds_toArray, List.set_cons_zero, List.set_cons_succ])
    refine wpAnyH_take (i := 12) (v := ?_) rfl (by kernel_rfl) (by kernel_rfl) (by kernel_rfl) (fun _ _ _ h => h) (Or.inl ⟨by rfl, ?_⟩) hHeld ?_
    rotate_left
    · intro w hSw
      (try dsimp only at hSw)
      go_simp
      (try with_reducible rfl)
    (try simp only [List.getElem_toArray, List.getElem_cons_zero, List.getElem_cons_succ, Act.put, List.setIfInBounds_toArray, List.set_cons_zero, List.set_cons_succ])
    refine wpAnyH_done (by kernel_rfl) ?_ _
    go_wp2
    go_ret
    exact ⟨ret_bl HR.out.symm, by (repeat' (first | (with_reducible exact Below.refl _ _) | (with_reducible assumption) | (with_reducible refine below_over ?_ _ _) | (with_reducible refine Lw.below_alloc ?_ _) | (with_reducible refine Below.drew ?_) | (with_reducible refine below_drewN ?_ _) | (with_reducible refine Below.setCell ?_ ?_ _) | go_size))⟩
theorem above_any (c : Cfg) (l k : Int) (w : World) (h : c.Ok) (l0 : -9223372036854775808 ≤ l) (l1 : l ≤ 9223372036854775807) (k0 : 0 ≤ k) (k1 : k ≤ 18446744073709551615) :
    Calls Tryz.prog 64 #[.agg #[.int .i64 c.bt, .int .i64 c.rw, .int .i64 c.wd, .int .i64 c.md, .int .u64 c.sd], .int .i64 l, .int .u64 k] w fun e w' => e = .returned (.tuple #[.int .u64 (aboveV c l k), .bool (aboveOk c l k)]) ∧ Below w.heap.size w w' := by
  have HO := Lib.hid h
  clear h
  cases hm : hasL c l with
  | false =>
    have e1 : aboveOk c l k = false := decide_eq_false (fun h => h.1 (keys_no (of_decide_eq_false hm)))
    have e2 : aboveV c l k = 0 := by unfold aboveV; rw [e1]; rfl
    rw [e1, e2]
    clear e1 e2
    go_enter Tryz.func64, Tryz.ntmps64
    go_wp2_with (go_at_call 62; (with_reducible refine (has_any c l _ HO.out).mono ?_); rintro e w' ⟨rfl, hb⟩; obtain ⟨bs, d, rfl⟩ := below_grow hb; clear hb; rw [hm])
    go_ret2
    exact ⟨rfl, by (repeat' (first | (with_reducible exact Below.refl _ _) | (with_reducible assumption) | (with_reducible refine below_over ?_ _ _) | (with_reducible refine Lw.below_alloc ?_ _) | (with_reducible refine Below.drew ?_) | (with_reducible refine below_drewN ?_ _) | (with_reducible refine Below.setCell ?_ ?_ _) | go_size))⟩
  | true =>
    obtain ⟨h2, h3, h4⟩ := of_decide_eq_true hm
    have b59 := h2.2.1
    have hk0 := keys_pos.2 ⟨h2, h3, h4⟩
    by_cases hk : keys c 0 ≤ k
    · have e1 : aboveOk c l k = false := decide_eq_false (by omega)
      have e2 : aboveV c l k = 0 := by unfold aboveV; rw [e1]; rfl
      rw [e1, e2]
      clear e1 e2 h2 hk0
      go_enter Tryz.func64, Tryz.ntmps64
      go_wp2_with (first
        | (go_at_call 62; (with_reducible refine (has_any c l _ HO.out).mono ?_); rintro e w' ⟨rfl, hb⟩; obtain ⟨bs, d, rfl⟩ := below_grow hb; clear hb; rw [hm])
        | (go_at_call 34; (with_reducible refine (keys_any c 0 _ HO.out (by omega) (by omega)).mono ?_); rintro e w' ⟨rfl, hb⟩; obtain ⟨bs, d, rfl⟩ := below_grow hb; clear hb))
      go_ret2
      exact ⟨rfl, by (repeat' (first | (with_reducible exact Below.refl _ _) | (with_reducible assumption) | (with_reducible refine below_over ?_ _ _) | (with_reducible refine Lw.below_alloc ?_ _) | (with_reducible refine Below.drew ?_) | (with_reducible refine below_drewN ?_ _) | (with_reducible refine Below.setCell ?_ ?_ _) | go_size))⟩
    · have e1 : aboveOk c l k = true := decide_eq_true (by omega)
      have e2 : aboveV c l k = k / 2 ^ l.toNat := if_pos e1
      have e3 : IntKind.u64.wrap (k / 2 ^ l.toNat) = k / 2 ^ l.toNat := IntWalk.u64_in _ ⟨Int.ediv_nonneg k0 (Int.le_of_lt (Int.pow_pos (by omega))), Int.le_trans (Int.ediv_le_self _ k0) (by omega)⟩
      rw [e1, e2]
      clear e1 e2 h2 hk0
      go_enter Tryz.func64, Tryz.ntmps64
      go_wp2_with (first
        | (go_at_call 62; (with_reducible refine (has_any c l _ HO.out).mono ?_); rintro e w' ⟨rfl, hb⟩; obtain ⟨bs, d, rfl⟩ := below_grow hb; clear hb; rw [hm])
        | (go_at_call 34; (with_reducible refine (keys_any c 0 _ HO.out (by omega) (by omega)).mono ?_); rintro e w' ⟨rfl, hb⟩; obtain ⟨bs, d, rfl⟩ := below_grow hb; clear hb))
      go_ret2
      exact ⟨rfl, by (repeat' (first | (with_reducible exact Below.refl _ _) | (with_reducible assumption) | (with_reducible refine below_over ?_ _ _) | (with_reducible refine Lw.below_alloc ?_ _) | (with_reducible refine Below.drew ?_) | (with_reducible refine below_drewN ?_ _) | (with_reducible refine Below.setCell ?_ ?_ _) | go_size))⟩
theorem pair_bd (s l : Int) (r : Nat) : (0 ≤ Sed.pairA s l r ∧ Sed.pairA s l r ≤ 18446744073709551615) ∧ (0 ≤ Sed.pairB s l r ∧ Sed.pairB s l r ≤ 18446744073709551615) := by
  by_cases h : Sed.okRow l r
  · have h1 := Sed.pairA_bd s l r h
    have h2 := Sed.pairB_bd s l r h
    omega
  · have h1 : Sed.pairA s l r = 0 := if_neg h
    have h2 : Sed.pairB s l r = 0 := if_neg h
    omega
theorem column_any (c : Cfg) (l k : Int) (r : Nat) (b0 b1 b2 : Nat) (w : World) (h : c.Ok) (l0 : -9223372036854775808 ≤ l) (l1 : l ≤ 9223372036854775807) (k0 : 0 ≤ k) (k1 : k ≤ 18446744073709551615) (hr : r ≤ 8)
    (c2 : w.cell? ⟨b0, 2, none⟩ = some (.int .i64 c.wd)) (c4 : w.cell? ⟨b0, 4, none⟩ = some (.int .u64 c.sd)) (cl : w.cell? ⟨b1, 0, none⟩ = some (.int .i64 l)) (ck : w.cell? ⟨b2, 0, none⟩ = some (.int .u64 k)) :
    Calls Tryz.prog 157 #[.int .i64 (r : Int), .pointer (some ⟨b0, 0, none⟩), .pointer (some ⟨b1, 0, none⟩), .pointer (some ⟨b2, 0, none⟩)] w fun e w' => e = .returned (.int .i64 (col c l k r)) ∧ Below w.heap.size w w' := by
  have hp := pair_bd c.sd l r
  have HO := Lib.hid h
  clear h
  go_enter Tryz.func157, Tryz.ntmps157
  go_wp2_with (first
    | (go_at_call 158; (with_reducible refine (Sed.pair_any c.sd l r _ l0 l1 (by omega) (by omega)).mono ?_); rintro e w5 ⟨rfl, hb⟩; have d2 := cell_up c2 hb; have dk := cell_up ck hb; have HB5 := Lib.hid hb; clear hb c2 c4 cl ck)
    | (go_at_call 159; (with_reducible refine (Hsh.bucket_any (Sed.pairA c.sd l r) (Sed.pairB c.sd l r) k c.wd _ hp.1.1 hp.1.2 hp.2.1 hp.2.2 k0 k1 HO.out.w0 HO.out.w1).mono ?_); rintro e w6 ⟨rfl, hb⟩; have HB6 := Lib.hid hb; clear hb))
  go_ret
  exact ⟨rfl, below_call HB5.out HB6.out (Nat.le_refl _)⟩
def mixC (c : Cfg) (l k : Int) (n j : Nat) : List Int := (List.range n).map (fun r => if r < j then col c l k r else 0)
theorem mixC_start (c : Cfg) (l k : Int) (n : Nat) : mixC c l k n 0 = List.replicate n 0 := by
  apply List.ext_getElem
  · simp [mixC]
  · intro i h1 h2
    simp [mixC]
theorem mixC_get (c : Cfg) (l k : Int) {n j : Nat} (hj : j < n) : (mixC c l k n j)[j]? = some 0 := by
  simp [mixC, hj]
theorem mixC_set (c : Cfg) (l k : Int) {n j : Nat} (hj : j < n) : (mixC c l k n j).set j (col c l k j) = mixC c l k n (j + 1) := by
  apply List.ext_getElem
  · simp [mixC]
  · intro i h1 h2
    rw [List.getElem_set]
    simp only [mixC, List.getElem_map, List.getElem_range]
    by_cases e : j = i
    · subst e
      rw [if_pos rfl, if_pos (by omega)]
    · rw [if_neg e]
      by_cases h3 : i < j
      · rw [if_pos h3, if_pos (by omega)]
      · rw [if_neg h3, if_neg (by omega)]
theorem mixC_end (c : Cfg) (l k : Int) (n : Nat) : mixC c l k n n = (List.range n).map (col c l k) := by
  apply List.ext_getElem
  · simp [mixC]
  · intro i h1 h2
    simp only [mixC, List.length_map, List.length_range] at h1
    simp only [mixC, List.getElem_map, List.getElem_range]
    rw [if_pos h1]
theorem int_info : (Tryz.prog.info? 3).map (fun i => (i.zero, i.size, i.bytes)) = some (some (.int .i64 0), 1, 8) := by kernel_rfl
theorem ints_u : Tryz.prog.underlying 168 = some (.slice 3) := by kernel_rfl
theorem mid_made (w : World) (q : Nat) (e : TypeId) : Ord.Mid (w.alloc (.cells (madeCells #[.int .i64 0] q) e)) w.heap.size 0 (List.replicate q 0) := by
  refine ⟨_, _, heap_alloc_new w _, fun j v hv => ?_⟩
  have h2 := toList_madeCells_one (.int .i64 0) q
  rw [List.getElem?_replicate] at hv
  split at hv
  · rename_i hj
    injection hv with hv
    subst hv
    rw [← Array.getElem?_toList, h2, Nat.zero_add, List.getElem?_replicate, if_pos hj]
  · cases hv
theorem kept_low {B : Nat} {w w2 w3 : World} {g : Nat} (h : Kept (fun q => q = g) w2 w3) (hb : Below B w w2) (hB : B ≤ w2.heap.size) (hg : B ≤ g) : Below B w w3 := h.low hb hB (fun q hq => by omega)
set_option maxRecDepth 100000 in
set_option maxHeartbeats 4000000 in
theorem columns_no (c : Cfg) (l k : Int) (w : World) (h : c.Ok) (l0 : -9223372036854775808 ≤ l) (l1 : l ≤ 9223372036854775807) (hk : keys c l ≤ k) :
    Calls Tryz.prog 152 #[.agg #[.int .i64 c.bt, .int .i64 c.rw, .int .i64 c.wd, .int .i64 c.md, .int .u64 c.sd], .int .i64 l, .int .u64 k] w fun e w' => e = .returned (.slice none 0 0) ∧ Below w.heap.size w w' := by
  have HO := Lib.hid h
  clear h
  go_enter Tryz.func152, Tryz.ntmps152
  go_wp2
  go_region_held3 (fun w' => w'.cell? ⟨w.heap.size, 0, none⟩ = some (.int .i64 c.bt) ∧ w'.cell? ⟨w.heap.size, 1, none⟩ = some (.int .i64 c.rw) ∧ w'.cell? ⟨w.heap.size, 2, none⟩ = some (.int .i64 c.wd) ∧ w'.cell? ⟨w.heap.size, 3, none⟩ = some (.int .i64 c.md) ∧ w'.cell? ⟨w.heap.size, 4, none⟩ = some (.int .u64 c.sd) ∧ w'.cell? ⟨w.heap.size + 1, 0, none⟩ = some (.int .i64 l) ∧ w'.cell? ⟨w.heap.size + 1 + 1, 0, none⟩ = some (.int .u64 k)) (simp [go_sem]) (first | (go_at_call 34; (with_reducible refine (keys_any c l _ HO.out l0 l1).mono ?_); rintro e w' ⟨rfl, hb⟩; obtain ⟨bs, d, rfl⟩ := below_grow hb; clear hb))
  all_goals go_wp2
  all_goals go_ret
  all_goals exact ⟨rfl, by (repeat' (first | (with_reducible exact Below.refl _ _) | (with_reducible assumption) | (with_reducible refine below_over ?_ _ _) | (with_reducible refine Lw.below_alloc ?_ _) | (with_reducible refine Below.drew ?_) | (with_reducible refine below_drewN ?_ _) | (with_reducible refine Below.setCell ?_ ?_ _) | go_size))⟩
set_option maxRecDepth 100000 in
set_option maxHeartbeats 4000000 in
theorem columns_new (c : Cfg) (l k : Int) (n : Nat) (w : World) (h : c.Ok) (l0 : -9223372036854775808 ≤ l) (l1 : l ≤ 9223372036854775807) (k0 : 0 ≤ k) (k1 : k ≤ 18446744073709551615) (hk : k < keys c l) (hn : c.rw = n) (hn8 : n ≤ 8) :
    Calls Tryz.prog 152 #[.agg #[.int .i64 c.bt, .int .i64 c.rw, .int .i64 c.wd, .int .i64 c.md, .int .u64 c.sd], .int .i64 l, .int .u64 k] w fun e w' => ∃ g, e = .returned (.slice (some ⟨g, 0, none⟩) n n) ∧ Ord.Mid w' g 0 ((List.range n).map (col c l k)) ∧ w.heap.size ≤ g ∧ Below w.heap.size w w' := by
  have HO := Lib.hid h
  obtain ⟨i0, hi, hz0, hz1, hz2⟩ := info_parts int_info
  have hmk : ∀ w, (Instr.makeSlice 168 (.int .i64 (n : Int)) (.int .i64 (n : Int))).run Tryz.prog w = .ok (.slice (some ⟨w.heap.size, 0, none⟩) n n) (w.alloc (.cells (madeCells #[.int .i64 0] n) 3)) := by
    intro w
    have h := run_make (P := Tryz.prog) w 168 3 i0 (.int .i64 0) ints_u hi hz0 .i64 .i64 n n (by omega) (Int.le_refl _) (by rw [hz2]; omega) (by omega)
    rw [hz1] at h
    simpa [Value.cells] using h
  have HN := Lib.hid hn
  clear hi hz0 hz1 hz2 h hn
  have hmf : ∀ (fn : Fn) (first cap : Array Value) (w : World), (Instr.makeFunc fn first cap).run Tryz.prog w = .ok (.func fn first cap) w := fun _ _ _ _ => rfl
  go_enter Tryz.func152, Tryz.ntmps152
  go_wp2
  go_region_held3 (fun w' => w'.cell? ⟨w.heap.size, 0, none⟩ = some (.int .i64 c.bt) ∧ w'.cell? ⟨w.heap.size, 1, none⟩ = some (.int .i64 c.rw) ∧ w'.cell? ⟨w.heap.size, 2, none⟩ = some (.int .i64 c.wd) ∧ w'.cell? ⟨w.heap.size, 3, none⟩ = some (.int .i64 c.md) ∧ w'.cell? ⟨w.heap.size, 4, none⟩ = some (.int .u64 c.sd) ∧ w'.cell? ⟨w.heap.size + 1, 0, none⟩ = some (.int .i64 l) ∧ w'.cell? ⟨w.heap.size + 1 + 1, 0, none⟩ = some (.int .u64 k)) (simp [go_sem]) (first | (go_at_call 34; (with_reducible refine (keys_any c l _ HO.out l0 l1).mono ?_); rintro e w' ⟨rfl, hb⟩; obtain ⟨bs, d, rfl⟩ := below_grow hb; clear hb))
  rw [HN.out]
  go_wp2
  obtain ⟨X, hX⟩ : ∃ X, X = grow (((w.alloc (.cells #[.int .i64 c.bt, .int .i64 (n : Int), .int .i64 c.wd, .int .i64 c.md, .int .u64 c.sd] 24)).alloc (.cells #[.int .i64 l] 3)).alloc (.cells #[.int .u64 k] 22)) bs d := ⟨_, rfl⟩
  have x2 : X.cell? ⟨w.heap.size, 2, none⟩ = some (.int .i64 c.wd) := by rw [hX]; simp [go_sem]
  have x4 : X.cell? ⟨w.heap.size, 4, none⟩ = some (.int .u64 c.sd) := by rw [hX]; simp [go_sem]
  have xl : X.cell? ⟨w.heap.size + 1, 0, none⟩ = some (.int .i64 l) := by rw [hX]; simp [go_sem]
  have xk : X.cell? ⟨w.heap.size + 1 + 1, 0, none⟩ = some (.int .u64 k) := by rw [hX]; simp [go_sem]
  have HBX : Hid (Below w.heap.size w X) := Lib.hid (by rw [hX]; (repeat' (first | (with_reducible exact Below.refl _ _) | (with_reducible assumption) | (with_reducible refine below_over ?_ _ _) | (with_reducible refine Lw.below_alloc ?_ _) | (with_reducible refine Below.drew ?_) | (with_reducible refine below_drewN ?_ _) | (with_reducible refine Below.setCell ?_ ?_ _) | go_size)))
  have hsz : X.heap.size = w.heap.size + 1 + 1 + 1 + bs.size := by rw [hX]; simp
  rw [← hX, ← hsz]
  have HM2 := Lib.hid (mid_made X n 3)
  obtain ⟨w2, hw2⟩ : ∃ w2, w2 = X.alloc (.cells (madeCells #[.int .i64 0] n) 3) := ⟨_, rfl⟩
  rw [← hw2] at HM2 ⊢
  have HB2 : Hid (Below X.heap.size X w2) := Lib.hid (by rw [hw2]; exact Lw.below_alloc (Below.refl _ _) _)
  obtain ⟨g, hg⟩ : ∃ g, X.heap.size = g := ⟨_, rfl⟩
  have c2 := cell_up x2 HB2.out
  have c4 := cell_up x4 HB2.out
  have cl := cell_up xl HB2.out
  have ck := cell_up xk HB2.out
  have HBW : Hid (Below w.heap.size w w2) := Lib.hid (below_call HBX.out HB2.out (Nat.le_refl _))
  rw [hg] at HM2 hsz ⊢
  have hg0 : ¬ w.heap.size = g := by omega
  have hg1 : ¬ w.heap.size + 1 = g := by omega
  have hg2 : ¬ w.heap.size + 1 + 1 = g := by omega
  have hgw : w.heap.size ≤ g := by omega
  clear x2 x4 xl xk hX hw2 hg HB2 HBX hsz
  obtain ⟨gad, hgad⟩ : ∃ gad : Addr, (⟨g, 0, none⟩ : Addr) = gad := ⟨_, rfl⟩
  have HG := Lib.hid hgad
  rw [hgad]
  go_loopw [21] (fun i wr => ∃ (j : Nat), j ≤ n ∧ i = .int .i64 j ∧ Ord.Mid wr g 0 (mixC c l k n j) ∧ Kept (fun q => q = g) w2 wr) (fun i _ => n - (intOf i).toNat)
  case atStart => exact ⟨0, Nat.zero_le _, rfl, by rw [mixC_start]; exact HM2.out, Kept.refl _ _⟩
  case round =>
    obtain ⟨j, hj, rfl, hmid, hkept⟩ := hrel
    have HMI := Lib.hid hmid
    have HK := Lib.hid hkept
    clear hmid hkept
    by_cases hlt : j < n
    · have d2 := HK.out.cell c2 hg0
      have d4 := HK.out.cell c4 hg0
      have dl := HK.out.cell cl hg1
      have dk := HK.out.cell ck hg2
      have HS := Lib.hid (mixC_set c l k hlt)
      have c1 := HMI.out.rd.at (mixC_get c l k hlt)
      rw [hgad] at c1
      go_wp2_with (go_at_call 157; (with_reducible refine (column_any c l k j w.heap.size (w.heap.size + 1) (w.heap.size + 1 + 1) _ HO.out l0 l1 k0 k1 (by omega) d2 d4 dl dk).mono ?_); rintro e5 w5 ⟨rfl, hb5⟩; have fz5 := (HMI.out.up hb5).frozen (0 + j); rw [← Ord.add_at, hgad] at fz5; have e1 := cell_up c1 hb5; have HB5 := Lib.hid hb5; clear hb5)
      go_roundw
      case rel =>
        have hm6 := (HMI.out.up HB5.out).set j (col c l k j)
        have hk6 : Kept (fun q => q = g) w2 (w5.setCell ⟨g, 0 + j, none⟩ (.int .i64 (col c l k j))) := (HK.out.then HB5.out).set (.inl rfl) _ _
        rw [HS.out, ← Ord.add_at, hgad] at hm6
        rw [← Ord.add_at, hgad] at hk6
        exact ⟨j + 1, by omega, by go_num, hm6, hk6⟩
      case measure => simp [intOf]; omega
    · have e : j = n := by omega
      subst e
      have hm := HMI.out
      rw [mixC_end] at hm
      have HM3 := Lib.hid hm
      clear hm
      go_wp2
      go_ret
      exact ⟨g, by rw [hgad]; rfl, HM3.out, hgw, kept_low HK.out HBW.out HBW.out.size hgw⟩
end Go.Proofs.YtmdkdjgamhaeoaaGreat.Shp
