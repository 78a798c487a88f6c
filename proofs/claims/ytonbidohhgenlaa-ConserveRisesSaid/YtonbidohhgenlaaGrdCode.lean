/- The walks of package grid (the code's): a grid is a block of its rows, columns and one row of all cells. -/
import Derived.Test.YtonbidohhgenlaaGrdDef
import Derived.Test.YtonbidohhgenlaaGrdNew
import Derived.Test.YtonbidohhgenlaaSlcClone
import Derived.Test.YtonbidohhgenlaaWidPlus
import Derived.Test.YtonbidohhgenlaaWidMinus
import Derived.Deep.LoopGhost
import Derived.Deep.RegionHeld3
import Derived.Deep.QuietTactic
import Derived.BigQuiet
import Derived.Laws.Cover3
import Derived.WalkMore
import Derived.Laws.OwnMore
namespace Go.Proofs.Ytonbidohhgenlaa.Grd
open Go Go.RowKit Lw
set_option linter.unusedVariables false
set_option linter.unusedSimpArgs false
/-- A grid of the code at p, in the blocks F: m rows, n columns, the numbers L. -/
def PG (w : World) (p : Addr) (F : Nat → Prop) (m n : Nat) (L : List (List Int)) : Prop :=
  Dims m n L ∧ ∃ (b g cap : Nat), p = ⟨b, 0, none⟩ ∧ w.heap[b]? = some (.cells #[.int .i64 m, .int .i64 n, .slice (some ⟨g, 0, none⟩) (m * n) cap] 58 (0, 0)) ∧ Ord.Mid w g 0 L.flatten ∧ m * n ≤ cap ∧ cap ≤ maxLen ∧ b ≠ g ∧ F = (fun k => k = b ∨ k = g)
theorem PG.dims {w : World} {p : Addr} {F : Nat → Prop} {m n : Nat} {L : List (List Int)} (h : PG w p F m n L) : Dims m n L := h.1
theorem size_of_heap {w : World} {b : Nat} {o : Obj} (h : w.heap[b]? = some o) : b < w.heap.size := by
  rcases Nat.lt_or_ge b w.heap.size with h1 | h1
  · exact h1
  · rw [Array.getElem?_eq_none h1] at h; cases h
def pgT (p : Addr) (F : Nat → Prop) (m n : Nat) (L : List (List Int)) : Thing where
  I := fun w => PG w p F m n L
  F := F
  keep := fun w w' H h hk hf => by
    obtain ⟨hd, b, g, cap, rfl, hb, hm, h1, h2, h3, rfl⟩ := h
    exact ⟨hd, b, g, cap, rfl, hk.heap hb (hf b (.inl rfl)), hm.keep hk (hf g (.inr rfl)), h1, h2, h3, rfl⟩
  lt := fun w h k hk => by
    obtain ⟨hd, b, g, cap, rfl, hb, hm, h1, h2, h3, rfl⟩ := h
    rcases hk with rfl | rfl
    · exact size_of_heap hb
    · exact hm.lt
theorem clamped_any (n M : Int) (m : Nat) (w : World) (hM : M = m) (n0 : -9223372036854775808 ≤ n) (n1 : n ≤ 9223372036854775807) (hm : m ≤ 128) :
    Calls Try.prog 25 #[.int .i64 n, .int .i64 M] w fun e w' => e = .returned (.int .i64 (cl n m)) ∧ w' = w := by
  go_enter Try.func25, Try.ntmps25
  go_wp2
  all_goals
    go_ret
    refine ⟨ret_i ?_, rfl⟩
    unfold cl
    omega
theorem cl_le (n : Int) (m : Nat) : cl n m ≤ m := by unfold cl; omega
theorem zeros_flat2 (m n : Nat) : (zerosL m n).flatten = List.replicate (m * n) 0 := by
  unfold zerosL
  rw [List.flatten_replicate_replicate]
theorem mid_made (w : World) (q : Nat) (e : TypeId) : Ord.Mid (w.alloc (.cells (madeCells #[.int .i64 0] q) e)) w.heap.size 0 (List.replicate q 0) := by
  refine ⟨_, _, heap_alloc_new w _, fun j v hv => ?_⟩
  have h2 := toList_madeCells_one (.int .i64 0) q
  rw [List.getElem?_replicate] at hv
  split at hv
  · rename_i hj
    injection hv with hv
    subst hv
    rw [← Array.getElem?_toList, h2, Nat.zero_add, List.getElem?_replicate, if_pos hj]
  · cases hv
set_option maxRecDepth 100000 in
theorem new_any (rows width : Int) (w : World) (r0 : -9223372036854775808 ≤ rows) (r1 : rows ≤ 9223372036854775807) (c0 : -9223372036854775808 ≤ width) (c1 : width ≤ 9223372036854775807) :
    Calls Try.prog 9 #[.int .i64 rows, .int .i64 width] w fun e w' => ∃ (p : Addr) (F : Nat → Prop), e = .returned (.pointer (some p)) ∧ PG w' p F (cl rows 8) (cl width 128) (zerosL (cl rows 8) (cl width 128)) ∧ (∀ k, F k → w.heap.size ≤ k) ∧ Below w.heap.size w w' := by
  obtain ⟨i0, hi, hz0, hz1, hz2⟩ := info_parts i64_info
  obtain ⟨m, hm⟩ : ∃ m, m = cl rows 8 := ⟨_, rfl⟩
  obtain ⟨n, hn⟩ : ∃ n, n = cl width 128 := ⟨_, rfl⟩
  have m8 : m ≤ 8 := hm ▸ cl_le rows 8
  have n128 : n ≤ 128 := hn ▸ cl_le width 128
  have C1 := Lib.hid (fun w => hm ▸ clamped_any rows 8 8 w rfl r0 r1 (by omega))
  have C2 := Lib.hid (fun w => hn ▸ clamped_any width 128 128 w rfl c0 c1 (by omega))
  rw [← hm, ← hn]
  obtain ⟨q, hq⟩ : ∃ q, q = m * n := ⟨_, rfl⟩
  have hqi : (m : Int) * n = (q : Int) := by rw [hq]; simp
  have hq1 : q ≤ 1024 := by rw [hq]; exact Nat.le_trans (Nat.mul_le_mul m8 n128) (by decide)
  have HD := Lib.hid (dims_zeros m8 n128)
  have HZ := Lib.hid (zeros_flat2 m n)
  have HQ := Lib.hid hq
  clear hm hn hq
  have hmk : ∀ w, (Instr.makeSlice 37 (.int .i64 (q : Int)) (.int .i64 (q : Int))).run Try.prog w = .ok (.slice (some ⟨w.heap.size, 0, none⟩) q q) (w.alloc (.cells (madeCells #[.int .i64 0] q) 2)) := by
    intro w
    have h := run_make (P := Try.prog) w 37 2 i0 (.int .i64 0) i64s_u hi hz0 .i64 .i64 q q (by omega) (Int.le_refl _) (by rw [hz2]; omega) (by omega)
    rw [hz1] at h
    simpa [Value.cells] using h
  clear hi hz0 hz1 hz2
  go_enter Try.func9, Try.ntmps9
  go_wp2_with (go_at_call 25; (first | with_reducible refine (C1.out _).mono ?_ | with_reducible refine (C2.out _).mono ?_); rintro e w' ⟨rfl, rfl⟩)
  go_ret
  have hb1 := Lw.below_alloc (Below.refl w'.heap.size w') (.cells (madeCells #[.int .i64 0] q) 2)
  have hb2 := hb1.alloc hb1.size (.cells #[.int .i64 m, .int .i64 n, .slice (some ⟨w'.heap.size, 0, none⟩) q q] 58)
  have hm := mid_made w' q 2
  refine ⟨⟨w'.heap.size + 1, 0, none⟩, fun k => k = w'.heap.size + 1 ∨ k = w'.heap.size, rfl, ⟨HD.out, w'.heap.size + 1, w'.heap.size, q, rfl, ?_, ?_, by rw [HQ.out]; exact Nat.le_refl _, by unfold maxLen; omega, by omega, rfl⟩, fun k hk => by omega, hb2⟩
  · have h := heap_alloc_new (w'.alloc (.cells (madeCells #[.int .i64 0] q) 2)) (.cells #[.int .i64 m, .int .i64 n, .slice (some ⟨w'.heap.size, 0, none⟩) q q] 58)
    rw [World.size_alloc, HQ.out] at h
    rw [HQ.out]
    exact h
  · rw [HZ.out, ← HQ.out]
    exact hm.up (Lw.below_alloc (Below.refl _ _) _)
theorem grd_cell {w : World} {b : Nat} {vs : Array Value} {e : TypeId} (h : w.heap[b]? = some (.cells vs e (0, 0))) (i : Nat) {v : Value} (hv : vs[i]? = some v) : w.cell? ⟨b, i, none⟩ = some v := by simp [World.cell?, h, hv]
theorem grd_frozen {w : World} {b : Nat} {vs : Array Value} {e : TypeId} (h : w.heap[b]? = some (.cells vs e (0, 0))) (i : Nat) : w.frozen? ⟨b, i, none⟩ = false := by simp [World.frozen?, h]
theorem rows_eq (p : Addr) (F : Nat → Prop) (m n : Nat) (L : List (List Int)) (w : World) (h : PG w p F m n L) :
    Calls Try.prog 55 #[.pointer (some p)] w fun e w' => e = .returned (.int .i64 m) ∧ w' = w := by
  obtain ⟨hd, b, g, cap, rfl, hb, -⟩ := h
  have c0 := grd_cell hb 0 (v := .int .i64 m) rfl
  clear hd hb
  go_enter Try.func55, Try.ntmps55
  go_wp2
  go_ret
  exact ⟨rfl, rfl⟩
theorem width_eq (p : Addr) (F : Nat → Prop) (m n : Nat) (L : List (List Int)) (w : World) (h : PG w p F m n L) :
    Calls Try.prog 56 #[.pointer (some p)] w fun e w' => e = .returned (.int .i64 n) ∧ w' = w := by
  obtain ⟨hd, b, g, cap, rfl, hb, -⟩ := h
  have c0 := grd_cell hb 1 (v := .int .i64 n) rfl
  clear hd hb
  go_enter Try.func56, Try.ntmps56
  go_wp2
  go_ret
  exact ⟨rfl, rfl⟩
theorem rows_any (p : Addr) (F : Nat → Prop) (m n : Nat) (L : List (List Int)) (w : World) (h : PG w p F m n L) :
    Calls Try.prog 55 #[.pointer (some p)] w fun e w' => e = .returned (.int .i64 m) ∧ Below w.heap.size w w' :=
  (rows_eq p F m n L w h).mono fun e w' h => ⟨h.1, h.2 ▸ Below.refl _ _⟩
theorem width_any (p : Addr) (F : Nat → Prop) (m n : Nat) (L : List (List Int)) (w : World) (h : PG w p F m n L) :
    Calls Try.prog 56 #[.pointer (some p)] w fun e w' => e = .returned (.int .i64 n) ∧ Below w.heap.size w w' :=
  (width_eq p F m n L w h).mono fun e w' h => ⟨h.1, h.2 ▸ Below.refl _ _⟩
/-! ### The cells one behind the other -/
theorem flat_get {n : Nat} : ∀ {L : List (List Int)} (k j : Nat), (∀ r ∈ L, r.length = n) → k < L.length → j < n → L.flatten[k * n + j]? = (L[k]?.getD [])[j]?
  | [], k, j, _, hk, _ => by simp at hk
  | r :: L, 0, j, hr, _, hj => by
    have h := hr r (by simp)
    rw [List.flatten_cons, Nat.zero_mul, Nat.zero_add, List.getElem?_append_left (by omega)]
    rfl
  | r :: L, k + 1, j, hr, hk, hj => by
    have h := hr r (by simp)
    have ih := flat_get (L := L) k j (fun q hq => hr q (by simp [hq])) (by simpa using hk) hj
    have e : (k + 1) * n + j - r.length = k * n + j := by rw [Nat.succ_mul]; omega
    rw [List.flatten_cons, List.getElem?_append_right (by rw [Nat.succ_mul]; omega), e, ih]
    rfl
theorem flat_set {n : Nat} (x : Int) : ∀ {L : List (List Int)} (k j : Nat), (∀ r ∈ L, r.length = n) → j < n → (L.modify k (fun r => r.set j x)).flatten = L.flatten.set (k * n + j) x ∨ L.length ≤ k
  | [], k, j, _, _ => .inr (Nat.zero_le _)
  | r :: L, 0, j, hr, hj => by
    left
    have h := hr r (by simp)
    simp only [List.modify_zero_cons, List.flatten_cons, Nat.zero_mul, Nat.zero_add]
    rw [List.set_append_left _ _ (by omega)]
  | r :: L, k + 1, j, hr, hj => by
    have h := hr r (by simp)
    rcases flat_set x (L := L) k j (fun q hq => hr q (by simp [hq])) hj with ih | ih
    · left
      have e : (k + 1) * n + j - r.length = k * n + j := by rw [Nat.succ_mul]; omega
      simp only [List.modify_succ_cons, List.flatten_cons]
      rw [ih, List.set_append_right _ _ (by rw [Nat.succ_mul]; omega), e]
    · right; simp; omega
theorem flat_at {m n : Nat} {L : List (List Int)} (h : Dims m n L) {row col : Int} (r0 : 0 ≤ row) (r1 : row < m) (c0 : 0 ≤ col) (c1 : col < n) : L.flatten[row.toNat * n + col.toNat]? = some (at2 L row col) := by
  have hk : row.toNat < L.length := by rw [h.len]; omega
  have hl : (L[row.toNat]?.getD []).length = n := by
    rw [List.getElem?_eq_getElem hk]
    exact (h.rows _ (List.getElem_mem hk)).1
  rw [flat_get _ _ (fun r hr => (h.rows r hr).1) hk (by omega)]
  unfold at2
  rw [if_neg (by omega), List.getElem?_eq_getElem (by omega)]
  rfl
theorem flat_put {m n : Nat} {L : List (List Int)} (h : Dims m n L) {row col : Int} (x : Int) (r0 : 0 ≤ row) (r1 : row < m) (c0 : 0 ≤ col) (c1 : col < n) : (setL L row col x).flatten = L.flatten.set (row.toNat * n + col.toNat) x := by
  have hin : in2 L row col = true := by rw [in2_dims h]; exact decide_eq_true ⟨r0, r1, c0, c1⟩
  unfold setL
  rw [if_pos hin]
  rcases flat_set x row.toNat col.toNat (fun r hr => (h.rows r hr).1) (by omega) with e | e
  · exact e
  · rw [h.len] at e; omega
theorem place_bd {m n : Nat} {row col : Int} (m8 : m ≤ 8) (n128 : n ≤ 128) (r0 : 0 ≤ row) (r1 : row < m) (c0 : 0 ≤ col) (c1 : col < n) : 0 ≤ row * n ∧ row * n ≤ 1024 ∧ row * n + col < (m * n : Nat) ∧ row * n + col = ((row.toNat * n + col.toNat : Nat) : Int) := by
  obtain ⟨r, rfl⟩ : ∃ r : Nat, row = r := ⟨row.toNat, by omega⟩
  have h1 : (r + 1) * n ≤ m * n := Nat.mul_le_mul_right _ (by omega)
  have h2 : m * n ≤ 8 * 128 := Nat.mul_le_mul m8 n128
  rw [Nat.succ_mul] at h1
  have e : (r : Int) * n = ((r * n : Nat) : Int) := by simp
  simp only [e, Int.toNat_natCast]
  omega
/-- Where a cell stands. -/
def plc (n : Nat) (row col : Int) (b : Bool) : Int := if b = true then row * n + col else 0
theorem place_any (p : Addr) (F : Nat → Prop) (m n : Nat) (L : List (List Int)) (row col : Int) (w : World) (h : PG w p F m n L)
    (r0 : -9223372036854775808 ≤ row) (r1 : row ≤ 9223372036854775807) (c0 : -9223372036854775808 ≤ col) (c1 : col ≤ 9223372036854775807) :
    Calls Try.prog 36 #[.pointer (some p), .int .i64 row, .int .i64 col] w fun e w' => e = .returned (.tuple #[.int .i64 (plc n row col (in2 L row col)), .bool (in2 L row col)]) ∧ w' = w := by
  have e := in2_dims h.1 row col
  have m8 := h.1.m8
  have n128 := h.1.n128
  obtain ⟨hd, b, g, cap, rfl, hb, -⟩ := h
  have k0 := grd_cell hb 0 (v := .int .i64 m) rfl
  have k1 := grd_cell hb 1 (v := .int .i64 n) rfl
  clear hd hb
  by_cases h1 : row < 0
  · have e2 : in2 L row col = false := by rw [e]; exact decide_eq_false (by omega)
    rw [e2]
    clear e e2
    go_enter Try.func36, Try.ntmps36
    go_wp2
    go_ret2
    exact ⟨rfl, rfl⟩
  by_cases h2 : (m : Int) ≤ row
  · have e2 : in2 L row col = false := by rw [e]; exact decide_eq_false (by omega)
    rw [e2]
    clear e e2
    go_enter Try.func36, Try.ntmps36
    go_wp2
    go_ret2
    exact ⟨rfl, rfl⟩
  by_cases h3 : col < 0
  · have e2 : in2 L row col = false := by rw [e]; exact decide_eq_false (by omega)
    rw [e2]
    clear e e2
    go_enter Try.func36, Try.ntmps36
    go_wp2
    go_ret2
    exact ⟨rfl, rfl⟩
  by_cases h4 : (n : Int) ≤ col
  · have e2 : in2 L row col = false := by rw [e]; exact decide_eq_false (by omega)
    rw [e2]
    clear e e2
    go_enter Try.func36, Try.ntmps36
    go_wp2
    go_ret2
    exact ⟨rfl, rfl⟩
  have e2 : in2 L row col = true := by rw [e]; exact decide_eq_true (by omega)
  rw [e2]
  obtain ⟨p0, p1, p2, p3⟩ := place_bd (row := row) (col := col) m8 n128 (by omega) (by omega) (by omega) (by omega)
  clear e e2 p2 p3
  go_enter Try.func36, Try.ntmps36
  go_wp2
  go_ret2
  exact ⟨rfl, rfl⟩
theorem at_no {L : List (List Int)} {m n : Nat} (h : Dims m n L) {row col : Int} (hi : in2 L row col = false) : at2 L row col = 0 := by
  apply at2_out
  rw [in2_dims h] at hi
  have hi := of_decide_eq_false hi
  rw [h.len]
  by_cases h1 : 0 ≤ row ∧ row < m
  · have h2 : row.toNat < L.length := by rw [h.len]; omega
    have e : (L[row.toNat]?.getD []).length = n := by
      rw [List.getElem?_eq_getElem h2]
      exact (h.rows _ (List.getElem_mem h2)).1
    rw [e]
    omega
  · omega
theorem at_any (p : Addr) (F : Nat → Prop) (m n : Nat) (L : List (List Int)) (row col : Int) (w : World) (h : PG w p F m n L)
    (r0 : -9223372036854775808 ≤ row) (r1 : row ≤ 9223372036854775807) (c0 : -9223372036854775808 ≤ col) (c1 : col ≤ 9223372036854775807) :
    Calls Try.prog 24 #[.pointer (some p), .int .i64 row, .int .i64 col] w fun e w' => e = .returned (.int .i64 (at2 L row col)) ∧ Below w.heap.size w w' := by
  have C := Lib.hid (place_any p F m n L row col w h r0 r1 c0 c1)
  have hd := h.1
  obtain ⟨-, b, g, cap, rfl, hb, hm, hc, hx, -⟩ := h
  have k2 := grd_cell hb 2 (v := .slice (some ⟨g, 0, none⟩) (m * n) cap) rfl
  have hmn : m * n ≤ 1024 := Nat.mul_le_mul hd.m8 hd.n128
  obtain ⟨q, hq⟩ : ∃ q, q = m * n := ⟨_, rfl⟩
  rw [← hq] at k2 hmn hc
  cases hi : in2 L row col with
  | false =>
    have e := at_no hd hi
    rw [hi] at C
    rw [e]
    clear hd hm hb hi e hq
    go_enter Try.func24, Try.ntmps24
    go_wp2_with (go_at_call 36; ((with_reducible refine C.out.mono ?_)); rintro e w' ⟨rfl, rfl⟩)
    go_ret
    exact ⟨rfl, Below.refl _ _⟩
  | true =>
    have hi2 := hi
    rw [in2_dims hd] at hi2
    obtain ⟨g0, g1, g2, g3⟩ := of_decide_eq_true hi2
    obtain ⟨p0, p1, p2, p3⟩ := place_bd hd.m8 hd.n128 g0 g1 g2 g3
    have hv := flat_at hd g0 g1 g2 g3
    obtain ⟨ad, had⟩ : ∃ ad : Addr, (⟨g, 0, none⟩ : Addr) = ad := ⟨_, rfl⟩
    have hcell := hm.rd.at hv
    obtain ⟨k, hk⟩ : ∃ k, k = row.toNat * n + col.toNat := ⟨_, rfl⟩
    rw [← hk] at hcell p3
    have hkq : k < q := by omega
    have e1 : plc n row col true = k := p3
    rw [hi, e1] at C
    rw [had] at k2 hcell
    clear hd hm hb hi hi2 e1 p0 p1 p2 p3 hv had hk hq
    go_enter Try.func24, Try.ntmps24
    go_wp2_with (go_at_call 36; ((with_reducible refine C.out.mono ?_)); rintro e w' ⟨rfl, rfl⟩)
    go_ret
    exact ⟨rfl, Below.refl _ _⟩
theorem put_any (p : Addr) (F : Nat → Prop) (m n : Nat) (L : List (List Int)) (row col x : Int) (w : World) (h : PG w p F m n L)
    (r0 : -9223372036854775808 ≤ row) (r1 : row ≤ 9223372036854775807) (c0 : -9223372036854775808 ≤ col) (c1 : col ≤ 9223372036854775807) (x0 : -9223372036854775808 ≤ x) (x1 : x ≤ 9223372036854775807) :
    Calls Try.prog 22 #[.pointer (some p), .int .i64 row, .int .i64 col, .int .i64 x] w fun e w' => e = .returned (.bool (in2 L row col)) ∧ ∃ F', PG w' p F' m n (setL L row col x) ∧ Kept F w w' ∧ (∀ k, F' k → F k ∨ w.heap.size ≤ k) := by
  have C := Lib.hid (place_any p F m n L row col w h r0 r1 c0 c1)
  have HP := Lib.hid h
  have hd := h.1
  obtain ⟨-, b, g, cap, rfl, hb, hm, hc, hx, hbg, rfl⟩ := h
  have k2 := grd_cell hb 2 (v := .slice (some ⟨g, 0, none⟩) (m * n) cap) rfl
  have hmn : m * n ≤ 1024 := Nat.mul_le_mul hd.m8 hd.n128
  obtain ⟨q, hq⟩ : ∃ q, q = m * n := ⟨_, rfl⟩
  rw [← hq] at k2 hmn hc
  cases hi : in2 L row col with
  | false =>
    have e : setL L row col x = L := by unfold setL; rw [hi]; rfl
    rw [hi] at C
    rw [e]
    clear hd hm hb hi e hq
    go_enter Try.func22, Try.ntmps22
    go_wp2_with (go_at_call 36; ((with_reducible refine C.out.mono ?_)); rintro e w' ⟨rfl, rfl⟩)
    go_ret
    exact ⟨rfl, _, HP.out, Kept.refl _ _, fun k hk => .inl hk⟩
  | true =>
    have hi2 := hi
    rw [in2_dims hd] at hi2
    obtain ⟨g0, g1, g2, g3⟩ := of_decide_eq_true hi2
    obtain ⟨p0, p1, p2, p3⟩ := place_bd hd.m8 hd.n128 g0 g1 g2 g3
    have hv := flat_at hd g0 g1 g2 g3
    have hs := flat_put hd x g0 g1 g2 g3
    obtain ⟨ad, had⟩ : ∃ ad : Addr, (⟨g, 0, none⟩ : Addr) = ad := ⟨_, rfl⟩
    have hcell := hm.rd.at hv
    obtain ⟨k, hk⟩ : ∃ k, k = row.toNat * n + col.toNat := ⟨_, rfl⟩
    rw [← hk] at hcell p3 hs
    have hset := hm.set k x
    have hfz := hm.frozen (0 + k)
    have hkept : Kept (fun q => q = b ∨ q = g) w (w.setCell ⟨g, 0 + k, none⟩ (.int .i64 x)) := (Kept.refl _ w).set (.inl (.inr rfl)) _ _
    have hb2 : (w.setCell ⟨g, 0 + k, none⟩ (.int .i64 x)).heap[b]? = some (.cells #[.int .i64 m, .int .i64 n, .slice (some ⟨g, 0, none⟩) (m * n) cap] 58 (0, 0)) := ((Kept.refl (fun q => q = g) w).set (.inl rfl) _ _).heap hb hbg
    have HE : Hid (PG (w.setCell ⟨g, 0 + k, none⟩ (.int .i64 x)) ⟨b, 0, none⟩ (fun q => q = b ∨ q = g) m n (setL L row col x)) := Lib.hid ⟨hd.set row col x0 x1, b, g, cap, rfl, hb2, by rw [hs]; exact hset, by rw [← hq]; exact hc, hx, hbg, rfl⟩
    have HK := Lib.hid hkept
    have hkq : k < q := by omega
    have e1 : plc n row col true = k := p3
    rw [hi, e1] at C
    rw [← Ord.add_at, had] at hfz HE HK
    rw [had] at k2 hcell
    clear hd hm hb hi hi2 e1 p0 p1 p2 p3 hv had hk hq hset hkept hs hb2
    go_enter Try.func22, Try.ntmps22
    go_wp2_with (go_at_call 36; ((with_reducible refine C.out.mono ?_)); rintro e w' ⟨rfl, rfl⟩)
    go_ret
    exact ⟨rfl, _, HE.out, HK.out, fun k hk => .inl hk⟩
/-- The cells, a copy. -/
theorem cells_mid (p : Addr) (F : Nat → Prop) (m n : Nat) (L : List (List Int)) (w : World) (h : PG w p F m n L) :
    Calls Try.prog 14 #[.pointer (some p)] w fun e w' => ∃ (g cap : Nat), e = .returned (.slice (some ⟨g, 0, none⟩) (m * n) cap) ∧ Ord.Mid w' g 0 L.flatten ∧ w.heap.size ≤ g ∧ m * n ≤ cap ∧ cap ≤ maxLen ∧ Below w.heap.size w w' := by
  have hd := h.1
  obtain ⟨-, b, g, cap, rfl, hb, hm, hc, hx, -⟩ := h
  have k2 := grd_cell hb 2 (v := .slice (some ⟨g, 0, none⟩) (m * n) cap) rfl
  have hmn : m * n ≤ 1024 := Nat.mul_le_mul hd.m8 hd.n128
  have hfl := flat_dims hd
  obtain ⟨q, hq⟩ : ∃ q, q = m * n := ⟨_, rfl⟩
  rw [← hq] at k2 hmn hc hfl ⊢
  have C := Lib.hid (Slc.clone_some ⟨g, 0, none⟩ q cap L.flatten w hc hx hm.rd hfl (by omega))
  clear hd hm hb hq hfl
  go_enter Try.func14, Try.ntmps14
  go_wp2_with (go_at_call 30; ((with_reducible refine C.out.mono ?_)); rintro e w' ⟨g2, cap2, rfl, hm2, hg2, h1, h2, hb2⟩)
  go_ret
  exact ⟨g2, cap2, rfl, hm2, hg2, h1, h2, hb2⟩
theorem mid_row {w : World} {g : Nat} {Z : List Int} (h : Ord.Mid w g 0 Z) : Row1 w (some ⟨g, 0, none⟩) Z := ⟨(fun h => by cases h), fun a ha => by injection ha with ha; exact ⟨g, 0, ha.symm, h⟩⟩
theorem cells_any (p : Addr) (F : Nat → Prop) (m n : Nat) (L : List (List Int)) (w : World) (h : PG w p F m n L) :
    Calls Try.prog 14 #[.pointer (some p)] w fun e w' => ∃ (A : Option Addr) (cap : Nat), e = .returned (.slice A (m * n) cap) ∧ Row1 w' A L.flatten ∧ m * n ≤ cap ∧ cap ≤ maxLen ∧ (∀ a, A = some a → w.heap.size ≤ a.block) ∧ Below w.heap.size w w' :=
  (cells_mid p F m n L w h).mono fun e w' ⟨g, cap, e1, hm, hg, h1, h2, hb⟩ => ⟨some ⟨g, 0, none⟩, cap, e1, mid_row hm, h1, h2, fun a ha => by injection ha with ha; subst ha; exact hg, hb⟩
theorem pg_drewN {w : World} {p : Addr} {F : Nat → Prop} {m n : Nat} {L : List (List Int)} (h : PG w p F m n L) (d : Nat) : PG (w.drewN d) p F m n L :=
  (pgT p F m n L).keep w _ (fun _ => False) h (Kept.of_below (below_drewN (Below.refl _ _) d)) (fun _ _ h => h)
theorem pg_drew {w : World} {p : Addr} {F : Nat → Prop} {m n : Nat} {L : List (List Int)} (h : PG w p F m n L) : PG w.drew p F m n L :=
  (pgT p F m n L).keep w _ (fun _ => False) h (Kept.of_below (Below.drew (Below.refl _ _))) (fun _ _ h => h)
set_option maxRecDepth 100000 in
theorem copy_any (p : Addr) (F : Nat → Prop) (m n : Nat) (L : List (List Int)) (w : World) (h : PG w p F m n L) :
    Calls Try.prog 23 #[.pointer (some p)] w fun e w' => ∃ (p' : Addr) (F' : Nat → Prop), e = .returned (.pointer (some p')) ∧ PG w' p' F' m n L ∧ (∀ k, F' k → w.heap.size ≤ k) ∧ Below w.heap.size w w' := by
  have HP := Lib.hid h
  have hd := h.1
  obtain ⟨-, b, g, cap, rfl, hb, hm, hc, hx, -⟩ := h
  have k0 := grd_cell hb 0 (v := .int .i64 m) rfl
  have k1 := grd_cell hb 1 (v := .int .i64 n) rfl
  have hbl := size_of_heap hb
  have HD := Lib.hid hd
  clear hd hm hb
  go_enter Try.func23, Try.ntmps23
  go_wp2
  go_region_held3 (fun w' => w'.cell? ⟨b, 0, none⟩ = some (.int .i64 m) ∧ w'.cell? ⟨b, 1, none⟩ = some (.int .i64 n)) (first | (refine ⟨cell_up k0 ?_, cell_up k1 ?_⟩ <;> (repeat' (first | (with_reducible exact Below.refl _ _) | (with_reducible assumption) | (with_reducible refine below_over ?_ _ _) | (with_reducible refine Lw.below_alloc ?_ _) | (with_reducible refine Below.drew ?_) | (with_reducible refine below_drewN ?_ _) | (with_reducible refine Below.setCell ?_ ?_ _) | go_size)))) (first
    | (go_at_call 14; ((with_reducible refine (cells_mid _ _ m n L _ (pg_drew HP.out)).mono ?_)); rintro e w2 ⟨g2, cap2, rfl, hm2, hg2, h1, h2, hb2⟩; obtain ⟨bs, d, rfl⟩ := below_grow hb2; have HM2 := Lib.hid hm2; clear hm2 hb2))
  go_wp2
  go_ret
  have hg3 : g2 < (grow w bs d).heap.size := HM2.out.lt
  rw [size_grow] at hg3
  have hg4 : w.heap.size ≤ g2 := hg2
  have hn := heap_alloc_new (grow w bs d) (.cells #[.int .i64 m, .int .i64 n, .slice (some ⟨g2, 0, none⟩) (m * n) cap2] 58)
  rw [size_grow] at hn
  refine ⟨⟨w.heap.size + bs.size, 0, none⟩, fun k => k = w.heap.size + bs.size ∨ k = g2, rfl, ⟨HD.out, _, g2, cap2, rfl, hn, HM2.out.up (Lw.below_alloc (Below.refl _ _) _), h1, h2, by omega, rfl⟩, fun k hk => by omega, (grow_below w bs d).alloc (by rw [size_grow]; omega) _⟩
theorem pg_alloc {w : World} {p : Addr} {F : Nat → Prop} {m n : Nat} {L : List (List Int)} (h : PG w p F m n L) (o : Obj) : PG (w.alloc o) p F m n L :=
  (pgT p F m n L).keep w _ (fun _ => False) h (Kept.of_below (Lw.below_alloc (Below.refl _ _) o)) (fun _ _ h => h)
theorem pg_up {w w' : World} {p : Addr} {F : Nat → Prop} {m n : Nat} {L : List (List Int)} (h : PG w p F m n L) (hb : Below w.heap.size w w') : PG w' p F m n L :=
  (pgT p F m n L).keep w _ (fun _ => False) h (Kept.of_below hb) (fun _ _ h => h)
end Go.Proofs.Ytonbidohhgenlaa.Grd
