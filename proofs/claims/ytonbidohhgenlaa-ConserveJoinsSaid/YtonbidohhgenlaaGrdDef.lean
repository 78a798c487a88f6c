/- Grids as lists of rows: what Put, Plus, Minus make of them; a row of numbers as a thing. -/
import Derived.Test.YtonbidohhgenlaaGrdRef
import Derived.Test.YtonbidohhgenlaaThing
import Derived.Test.YtonbidohhgenlaaOrdMid
import Derived.Test.YtonbidohhgenlaaWidMath
namespace Go.Proofs.Ytonbidohhgenlaa.Grd
open Go Go.RowKit Lw
set_option linter.unusedVariables false
structure Dims (m n : Nat) (L : List (List Int)) : Prop where
  len : L.length = m
  m8 : m ≤ 8
  n128 : n ≤ 128
  rows : ∀ r ∈ L, r.length = n ∧ In64 r
def setL (L : List (List Int)) (row col x : Int) : List (List Int) := if in2 L row col = true then L.modify row.toNat (fun r => r.set col.toNat x) else L
def zerosL (m n : Nat) : List (List Int) := List.replicate m (List.replicate n 0)
def rowS (s : Int) (xs ys : List Int) : List Int := List.zipWith (fun x y => x + s * y) xs ys
def gridS (s : Int) (L M : List (List Int)) : List (List Int) := List.zipWith (rowS s) L M
def fitsAll (J : List (List Int)) : Bool := J.all (fun r => r.all Wid.fit64)
theorem in2_dims {m n : Nat} {L : List (List Int)} (h : Dims m n L) (row col : Int) : in2 L row col = decide (0 ≤ row ∧ row < m ∧ 0 ≤ col ∧ col < n) := by
  unfold in2
  rw [h.len]
  by_cases h1 : 0 ≤ row ∧ row < m
  · have h2 : row.toNat < L.length := by rw [h.len]; omega
    have e : (L[row.toNat]?.getD []).length = n := by
      rw [List.getElem?_eq_getElem h2]
      exact (h.rows _ (List.getElem_mem h2)).1
    rw [e]
  · have g1 : ¬ (0 ≤ row ∧ row < (m : Int) ∧ 0 ≤ col ∧ col < ((L[row.toNat]?.getD []).length : Int)) := fun h => h1 ⟨h.1, h.2.1⟩
    have g2 : ¬ (0 ≤ row ∧ row < (m : Int) ∧ 0 ≤ col ∧ col < (n : Int)) := fun h => h1 ⟨h.1, h.2.1⟩
    rw [decide_eq_false g1, decide_eq_false g2]
theorem in64_set {r : List Int} (h : In64 r) (j : Nat) {x : Int} (h0 : -9223372036854775808 ≤ x) (h1 : x ≤ 9223372036854775807) : In64 (r.set j x) := by
  intro v hv
  rcases List.mem_or_eq_of_mem_set hv with h2 | h2
  · exact h v h2
  · subst h2; exact ⟨h0, h1⟩
theorem Dims.set {m n : Nat} {L : List (List Int)} (h : Dims m n L) (row col : Int) {x : Int} (h0 : -9223372036854775808 ≤ x) (h1 : x ≤ 9223372036854775807) : Dims m n (setL L row col x) := by
  unfold setL
  split
  · refine ⟨by rw [List.length_modify]; exact h.len, h.m8, h.n128, fun r hr => ?_⟩
    obtain ⟨i, hi, e⟩ := List.mem_iff_getElem.1 hr
    rw [List.getElem_modify] at e
    rw [List.length_modify] at hi
    have h2 := h.rows _ (List.getElem_mem hi)
    split at e
    · subst e; exact ⟨by rw [List.length_set]; exact h2.1, in64_set h2.2 _ h0 h1⟩
    · subst e; exact h2
  · exact h
theorem dims_zeros {m n : Nat} (h : m ≤ 8) (g : n ≤ 128) : Dims m n (zerosL m n) := by
  refine ⟨by simp [zerosL], h, g, fun r hr => ?_⟩
  have := (List.mem_replicate.1 hr).2
  subst this
  exact ⟨by simp, fun v hv => by have := (List.mem_replicate.1 hv).2; subst this; exact ⟨by omega, by omega⟩⟩
theorem nums_put2 (R : List Row) (row col x : Int) : nums (put2 R row col x) = setL (nums R) row col x := by
  unfold put2 setL
  split
  · unfold nums set2
    apply List.ext_getElem?
    intro i
    rw [List.getElem?_map, List.getElem?_modify, List.getElem?_modify, List.getElem?_map]
    cases R[i]? <;> simp
    split <;> simp
  · rfl
/-- A row of numbers, its memory its own. -/
def Row1 (w : World) (A : Option Addr) (Z : List Int) : Prop := (A = none → Z = []) ∧ ∀ a, A = some a → ∃ g i, a = ⟨g, i, none⟩ ∧ Ord.Mid w g i Z
def rowT (A : Option Addr) (Z : List Int) : Thing where
  I := fun w => Row1 w A Z
  F := fun k => ∃ a, A = some a ∧ a.block = k
  keep := fun w w' H h hk hf => ⟨h.1, fun a ha => by
    obtain ⟨g, i, rfl, hm⟩ := h.2 a ha
    exact ⟨g, i, rfl, hm.keep hk (hf g ⟨_, ha, rfl⟩)⟩⟩
  lt := fun w h k hk => by
    obtain ⟨a, ha, rfl⟩ := hk
    obtain ⟨g, i, rfl, hm⟩ := h.2 a ha
    exact hm.lt
theorem Row1.rd {w : World} {A : Option Addr} {Z : List Int} (h : Row1 w A Z) : Rd .i64 w A Z := by
  intro j v hv
  cases A with
  | none => rw [h.1 rfl] at hv; simp at hv
  | some a =>
    obtain ⟨g, i, rfl, hm⟩ := h.2 a rfl
    exact hm.rd j v hv
theorem mem_zip {α β γ : Type} {f : α → β → γ} : ∀ {xs : List α} {ys : List β} {z : γ}, z ∈ List.zipWith f xs ys → ∃ x ∈ xs, ∃ y ∈ ys, z = f x y
  | [], _, _, h => by simp at h
  | _ :: _, [], _, h => by simp at h
  | x :: xs, y :: ys, z, h => by
    rw [List.zipWith_cons_cons] at h
    rcases List.mem_cons.1 h with h | h
    · exact ⟨x, by simp, y, by simp, h⟩
    · obtain ⟨a, ha, b, hb, e⟩ := mem_zip h
      exact ⟨a, by simp [ha], b, by simp [hb], e⟩
theorem fit64_in {x : Int} (h : Wid.fit64 x = true) : -9223372036854775808 ≤ x ∧ x ≤ 9223372036854775807 := by
  have h2 : -9223372036854775808 ≤ x ∧ x < 9223372036854775808 := by simpa [Wid.fit64] using h
  omega
theorem Dims.join {m n : Nat} {L M : List (List Int)} (h : Dims m n L) (g : Dims m n M) {s : Int} (hf : fitsAll (gridS s L M) = true) : Dims m n (gridS s L M) := by
  refine ⟨by unfold gridS; rw [List.length_zipWith, h.len, g.len]; omega, h.m8, h.n128, fun r hr => ?_⟩
  have h2 : In64 r := fun v hv => fit64_in (List.all_eq_true.1 (List.all_eq_true.1 hf r hr) v hv)
  obtain ⟨a, ha, b, hb, rfl⟩ := mem_zip hr
  exact ⟨by unfold rowS; rw [List.length_zipWith, (h.rows a ha).1, (g.rows b hb).1]; omega, h2⟩
/-- What Plus (s = 1) and Minus (s = -1) answer, and make. -/
def jcode (s : Int) (m n m' n' : Nat) (L M : List (List Int)) : Int := if m = m' ∧ n = n' then (if fitsAll (gridS s L M) = true then 0 else 4) else 5
def jres (s : Int) (m n m' n' : Nat) (L M : List (List Int)) : List (List Int) := if m = m' ∧ n = n' ∧ fitsAll (gridS s L M) = true then gridS s L M else L
/-- The first k of the cells qs are set. -/
def puts (L : List (List Int)) (qs : List (Int × Int × Int)) : List (List Int) := qs.foldl (fun L q => setL L q.1 q.2.1 q.2.2) L
theorem puts_next (L : List (List Int)) (qs : List (Int × Int × Int)) (k : Nat) (q : Int × Int × Int) (h : qs[k]? = some q) : puts L (qs.take (k + 1)) = setL (puts L (qs.take k)) q.1 q.2.1 q.2.2 := by
  have e := List.getElem?_eq_some_iff.1 h
  obtain ⟨h1, h2⟩ := e
  unfold puts
  rw [List.take_succ_eq_append_getElem h1, List.foldl_append, h2]
  rfl
theorem puts_dims {m n : Nat} {L : List (List Int)} (h : Dims m n L) : ∀ (qs : List (Int × Int × Int)), (∀ q ∈ qs, -9223372036854775808 ≤ q.2.2 ∧ q.2.2 ≤ 9223372036854775807) → Dims m n (puts L qs) := by
  intro qs
  induction qs generalizing L with
  | nil => intro _; exact h
  | cons q qs ih => intro hq; exact ih (h.set _ _ (hq q (by simp)).1 (hq q (by simp)).2) (fun r hr => hq r (by simp [hr]))
theorem flat_dims {m n : Nat} {L : List (List Int)} (h : Dims m n L) : L.flatten.length = m * n := by
  have key : ∀ (L : List (List Int)), (∀ r ∈ L, r.length = n) → L.flatten.length = L.length * n := by
    intro L
    induction L with
    | nil => intro _; simp
    | cons r L ih =>
      intro hr
      rw [List.flatten_cons, List.length_append, ih (fun q hq => hr q (by simp [hq])), hr r (by simp), List.length_cons, Nat.succ_mul, Nat.add_comm]
  rw [key L (fun r hr => (h.rows r hr).1), h.len]
theorem row_back : ∀ {xs ys : List Int}, xs.length = ys.length → rowS (-1) (rowS 1 xs ys) ys = xs
  | [], [], _ => rfl
  | [], _ :: _, h => by simp at h
  | _ :: _, [], h => by simp at h
  | x :: xs, y :: ys, h => by
    have ih := row_back (xs := xs) (ys := ys) (by simpa using h)
    unfold rowS at ih ⊢
    simp only [List.zipWith_cons_cons, ih]
    congr 1; omega
theorem row_self : ∀ (xs : List Int), rowS (-1) xs xs = List.replicate xs.length 0
  | [] => rfl
  | x :: xs => by
    have ih := row_self xs
    unfold rowS at ih ⊢
    simp only [List.zipWith_cons_cons, List.length_cons, List.replicate_succ, ih]
    congr 1; omega
theorem grid_back {m n : Nat} : ∀ {L M : List (List Int)}, (∀ r ∈ L, r.length = n) → (∀ r ∈ M, r.length = n) → L.length = M.length → gridS (-1) (gridS 1 L M) M = L
  | [], [], _, _, _ => rfl
  | [], _ :: _, _, _, h => by simp at h
  | _ :: _, [], _, _, h => by simp at h
  | x :: xs, y :: ys, h1, h2, h => by
    have ih := grid_back (m := m) (L := xs) (M := ys) (fun r hr => h1 r (by simp [hr])) (fun r hr => h2 r (by simp [hr])) (by simpa using h)
    unfold gridS at ih ⊢
    simp only [List.zipWith_cons_cons, ih]
    rw [row_back (by rw [h1 x (by simp), h2 y (by simp)])]
theorem grid_self {n : Nat} : ∀ {L : List (List Int)}, (∀ r ∈ L, r.length = n) → gridS (-1) L L = zerosL L.length n
  | [], _ => rfl
  | x :: xs, h => by
    have ih := grid_self (L := xs) (fun r hr => h r (by simp [hr]))
    unfold gridS zerosL at ih ⊢
    simp only [List.zipWith_cons_cons, List.length_cons, List.replicate_succ, ih]
    rw [row_self, h x (by simp)]
theorem fits_dims {m n : Nat} {L : List (List Int)} (h : Dims m n L) : fitsAll L = true := by
  refine List.all_eq_true.2 fun r hr => List.all_eq_true.2 fun v hv => ?_
  have := (h.rows r hr).2 v hv
  simp [Wid.fit64]
  omega
theorem back_dims {m n : Nat} {L M : List (List Int)} (h : Dims m n L) (g : Dims m n M) : gridS (-1) (gridS 1 L M) M = L :=
  grid_back (m := m) (fun r hr => (h.rows r hr).1) (fun r hr => (g.rows r hr).1) (by rw [h.len, g.len])
theorem self_dims {m n : Nat} {L : List (List Int)} (h : Dims m n L) : gridS (-1) L L = zerosL m n := by
  have := grid_self (n := n) (L := L) (fun r hr => (h.rows r hr).1)
  rwa [h.len] at this
theorem jcode_yes {s : Int} {m n : Nat} {L M : List (List Int)} (h : fitsAll (gridS s L M) = true) : jcode s m n m n L M = 0 ∧ jres s m n m n L M = gridS s L M := by
  simp [jcode, jres, h]
theorem jcode_no {s : Int} {m n : Nat} {L M : List (List Int)} (h : fitsAll (gridS s L M) = false) : jcode s m n m n L M = 4 ∧ jres s m n m n L M = L := by
  simp [jcode, jres, h]
theorem row1_at {w : World} {A : Option Addr} {Z : List Int} (h : Row1 w A Z) {k : Nat} {v : Int} (hv : Z[k]? = some v) (x : Int) :
    ∃ (a : Addr), A = some a ∧ w.cell? (a.add k) = some (.int .i64 v) ∧ w.frozen? (a.add k) = false ∧ Row1 (w.setCell (a.add k) (.int .i64 x)) A (Z.set k x) ∧ Kept (rowT A Z).F w (w.setCell (a.add k) (.int .i64 x)) := by
  cases A with
  | none => rw [h.1 rfl] at hv; simp at hv
  | some a =>
    obtain ⟨g, i, rfl, hm⟩ := h.2 a rfl
    refine ⟨⟨g, i, none⟩, rfl, ?_, ?_, ⟨(fun h => by cases h), fun a ha => ?_⟩, ?_⟩
    · rw [Ord.add_at]; exact hm.cell hv
    · rw [Ord.add_at]; exact hm.frozen _
    · injection ha with ha
      subst ha
      refine ⟨g, i, rfl, ?_⟩
      rw [Ord.add_at]
      exact hm.set k x
    · rw [Ord.add_at]
      exact (Kept.refl _ w).set (.inl ⟨_, rfl, rfl⟩) _ _
theorem at_apart {m n : Nat} {L : List (List Int)} (h : Dims m n L) (row col x : Int) (hne : ¬ (row = 0 ∧ col = 0)) : at2 (setL L row col x) 0 0 = at2 L 0 0 := by
  unfold setL
  split
  · rename_i hi
    rw [in2_dims h] at hi
    have hi := of_decide_eq_true hi
    unfold at2
    rw [if_neg (by omega), if_neg (by omega), List.getElem?_modify]
    cases hL : L[(0 : Int).toNat]? with
    | none => rfl
    | some r =>
      by_cases hr : row.toNat = 0
      · have hc : col.toNat ≠ 0 := by omega
        simp [hr, hc]
      · have hr2 : ¬ row.toNat = (0 : Int).toNat := hr
        simp only [Option.map_eq_map, Option.map_some, if_neg hr2]
  · rfl
/-- Small enough to be doubled. -/
def in62 (v : Int) : Bool := decide (-4611686018427387904 ≤ v ∧ v < 4611686018427387904)
theorem row_twice (xs : List Int) : rowS 1 xs xs = xs.map (2 * ·) := by
  induction xs with
  | nil => rfl
  | cons x xs ih =>
    unfold rowS at ih ⊢
    simp only [List.zipWith_cons_cons, List.map_cons, ih]
    congr 1; omega
theorem grid_twice (L : List (List Int)) : gridS 1 L L = L.map (fun r => r.map (2 * ·)) := by
  induction L with
  | nil => rfl
  | cons x xs ih =>
    unfold gridS at ih ⊢
    simp only [List.zipWith_cons_cons, List.map_cons, ih, row_twice]
theorem twice_flat (L : List (List Int)) : (gridS 1 L L).flatten = L.flatten.map (2 * ·) := by
  rw [grid_twice, List.map_flatten]
theorem twice_fits (L : List (List Int)) : fitsAll (gridS 1 L L) = L.flatten.all in62 := by
  rw [grid_twice]
  unfold fitsAll
  rw [List.all_map, List.all_flatten]
  congr 1
  funext r
  simp only [Function.comp_apply, List.all_map]
  congr 1
  funext v
  simp only [Function.comp_apply, Wid.fit64, in62]
  congr 1
  apply propext
  constructor <;> intro h <;> omega
theorem zeros_flat {m n : Nat} : ∀ v ∈ (zerosL m n).flatten, v = 0 := by
  intro v hv
  obtain ⟨r, hr, hv⟩ := List.mem_flatten.1 hv
  have := (List.mem_replicate.1 hr).2
  subst this
  exact (List.mem_replicate.1 hv).2
end Go.Proofs.Ytonbidohhgenlaa.Grd
