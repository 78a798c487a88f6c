/- Texts that the statements of this seat lean on, put together: GrdDef, GrdNew, GrdCode, GrdJoin, GrdDoc. -/
import Derived.Test.YtkannodfamnmcaaGreatMa
import Derived.Test.YtkannodfamnmcaaGreatMb
import Derived.Test.YtkannodfamnmcaaGreatMc
import Derived.Deep.QuietTactic
import Derived.BigQuiet
import Derived.Deep.LoopGhost
import Derived.Deep.RegionHeld3
import Derived.Laws.Cover3
import Derived.WalkMore
import Derived.Laws.OwnMore
import Derived.Deep.DeepCutAuto
/- Grids as lists of rows: what Put, Plus, Minus make of them; a row of numbers as a thing. -/
namespace Go.Proofs.YtkannodfamnmcaaGreat.Grd
open Go Go.RowKit Lw
set_option linter.unusedVariables false
structure Dims (m n : Nat) (L : List (List Int)) : Prop where
  len : L.length = m
  m8 : m ≤ 8
  n128 : n ≤ 128
  rows : ∀ r ∈ L, r.length = n ∧ In64 r
def setL (L : List (List Int)) (row col x : Int) : List (List Int) := if in2 L row col = true then L.modify row.toNat (fun r => r.set col.toNat x) else L
def zerosL (m n : Nat) : List (List Int) := List.replicate m (List.replicate n 0)
def rowS (s : Int) (xs ys : List Int) : List Int := List.zipWith (fun x y => x + s * y) xs ys
def gridS (s : Int) (L M : List (List Int)) : List (List Int) := List.zipWith (rowS s) L M
def fitsAll (J : List (List Int)) : Bool := J.all (fun r => r.all Wid.fit64)
theorem in2_dims {m n : Nat} {L : List (List Int)} (h : Dims m n L) (row col : Int) : in2 L row col = decide (0 ≤ row ∧ row < m ∧ 0 ≤ col ∧ col < n) := by
  unfold in2
  rw [h.len]
  by_cases h1 : 0 ≤ row ∧ row < m
  · have h2 : row.toNat < L.length := by rw [h.len]; omega
    have e : (L[row.toNat]?.getD []).length = n := by
      rw [List.getElem?_eq_getElem h2]
      exact (h.rows _ (List.getElem_mem h2)).1
    rw [e]
  · have g1 : ¬ (0 ≤ row ∧ row < (m : Int) ∧ 0 ≤ col ∧ col < ((L[row.toNat]?.getD []).length : Int)) := fun h => h1 ⟨h.1, h.2.1⟩
    have g2 : ¬ (0 ≤ row ∧ row < (m : Int) ∧ 0 ≤ col ∧ col < (n : Int)) := fun h => h1 ⟨h.1, h.2.1⟩
    rw [decide_eq_false g1, decide_eq_false g2]
theorem in64_set {r : List Int} (h : In64 r) (j : Nat) {x : Int} (h0 : -9223372036854775808 ≤ x) (h1 : x ≤ 9223372036854775807) : In64 (r.set j x) := by
  intro v hv
  rcases List.mem_or_eq_of_mem_set hv with h2 | h2
  · exact h v h2
  · subst h2; exact ⟨h0, h1⟩
theorem Dims.set {m n : Nat} {L : List (List Int)} (h : Dims m n L) (row col : Int) {x : Int} (h0 : -9223372036854775808 ≤ x) (h1 : x ≤ 9223372036854775807) : Dims m n (setL L row col x) := by
  unfold setL
  split
  · refine ⟨by rw [List.length_modify]; exact h.len, h.m8, h.n128, fun r hr => ?_⟩
    obtain ⟨i, hi, e⟩ := List.mem_iff_getElem.1 hr
    rw [List.getElem_modify] at e
    rw [List.length_modify] at hi
    have h2 := h.rows _ (List.getElem_mem hi)
    split at e
    · subst e; exact ⟨by rw [List.length_set]; exact h2.1, in64_set h2.2 _ h0 h1⟩
    · subst e; exact h2
  · exact h
theorem dims_zeros {m n : Nat} (h : m ≤ 8) (g : n ≤ 128) : Dims m n (zerosL m n) := by
  refine ⟨by simp [zerosL], h, g, fun r hr => ?_⟩
  have := (List.mem_replicate.1 hr).2
  subst this
  exact ⟨by simp, fun v hv => by have := (List.mem_replicate.1 hv).2; subst this; exact ⟨by omega, by omega⟩⟩
theorem nums_put2 (R : List Row) (row col x : Int) : nums (put2 R row col x) = setL (nums R) row col x := by
  unfold put2 setL
  split
  · unfold nums set2
    apply List.ext_getElem?
    intro i
    rw [List.getElem?_map, List.getElem?_modify, List.getElem?_modify, List.getElem?_map]
    cases R[i]? <;> simp
    split <;> simp
  · rfl
/-- A row of numbers, its memory its own. -/
def Row1 (w : World) (A : Option Addr) (Z : List Int) : Prop := (A = none → Z = []) ∧ ∀ a, A = some a → ∃ g i, a = ⟨g, i, none⟩ ∧ Ord.Mid w g i Z
def rowT (A : Option Addr) (Z : List Int) : Thing where
  I := fun w => Row1 w A Z
  F := fun k => ∃ a, A = some a ∧ a.block = k
  keep := fun w w' H h hk hf => ⟨h.1, fun a ha => by
    obtain ⟨g, i, rfl, hm⟩ := h.2 a ha
    exact ⟨g, i, rfl, hm.keep hk (hf g ⟨_, ha, rfl⟩)⟩⟩
  lt := fun w h k hk => by
    obtain ⟨a, ha, rfl⟩ := hk
    obtain ⟨g, i, rfl, hm⟩ := h.2 a ha
    exact hm.lt
theorem Row1.rd {w : World} {A : Option Addr} {Z : List Int} (h : Row1 w A Z) : Rd .i64 w A Z := by
  intro j v hv
  cases A with
  | none => rw [h.1 rfl] at hv; simp at hv
  | some a =>
    obtain ⟨g, i, rfl, hm⟩ := h.2 a rfl
    exact hm.rd j v hv
theorem mem_zip {α β γ : Type} {f : α → β → γ} : ∀ {xs : List α} {ys : List β} {z : γ}, z ∈ List.zipWith f xs ys → ∃ x ∈ xs, ∃ y ∈ ys, z = f x y
  | [], _, _, h => by simp at h
  | _ :: _, [], _, h => by simp at h
  | x :: xs, y :: ys, z, h => by
    rw [List.zipWith_cons_cons] at h
    rcases List.mem_cons.1 h with h | h
    · exact ⟨x, by simp, y, by simp, h⟩
    · obtain ⟨a, ha, b, hb, e⟩ := mem_zip h
      exact ⟨a, by simp [ha], b, by simp [hb], e⟩
theorem fit64_in {x : Int} (h : Wid.fit64 x = true) : -9223372036854775808 ≤ x ∧ x ≤ 9223372036854775807 := by
  have h2 : -9223372036854775808 ≤ x ∧ x < 9223372036854775808 := by simpa [Wid.fit64] using h
  omega
theorem Dims.join {m n : Nat} {L M : List (List Int)} (h : Dims m n L) (g : Dims m n M) {s : Int} (hf : fitsAll (gridS s L M) = true) : Dims m n (gridS s L M) := by
  refine ⟨by unfold gridS; rw [List.length_zipWith, h.len, g.len]; omega, h.m8, h.n128, fun r hr => ?_⟩
  have h2 : In64 r := fun v hv => fit64_in (List.all_eq_true.1 (List.all_eq_true.1 hf r hr) v hv)
  obtain ⟨a, ha, b, hb, rfl⟩ := mem_zip hr
  exact ⟨by unfold rowS; rw [List.length_zipWith, (h.rows a ha).1, (g.rows b hb).1]; omega, h2⟩
/-- What Plus (s = 1) and Minus (s = -1) answer, and make. -/
def jcode (s : Int) (m n m' n' : Nat) (L M : List (List Int)) : Int := if m = m' ∧ n = n' then (if fitsAll (gridS s L M) = true then 0 else 4) else 5
def jres (s : Int) (m n m' n' : Nat) (L M : List (List Int)) : List (List Int) := if m = m' ∧ n = n' ∧ fitsAll (gridS s L M) = true then gridS s L M else L
/-- The first k of the cells qs are set. -/
def puts (L : List (List Int)) (qs : List (Int × Int × Int)) : List (List Int) := qs.foldl (fun L q => setL L q.1 q.2.1 q.2.2) L
theorem puts_next (L : List (List Int)) (qs : List (Int × Int × Int)) (k : Nat) (q : Int × Int × Int) (h : qs[k]? = some q) : puts L (qs.take (k + 1)) = setL (puts L (qs.take k)) q.1 q.2.1 q.2.2 := by
  have e := List.getElem?_eq_some_iff.1 h
  obtain ⟨h1, h2⟩ := e
  unfold puts
  rw [List.take_succ_eq_append_getElem h1, List.foldl_append, h2]
  rfl
theorem puts_dims {m n : Nat} {L : List (List Int)} (h : Dims m n L) : ∀ (qs : List (Int × Int × Int)), (∀ q ∈ qs, -9223372036854775808 ≤ q.2.2 ∧ q.2.2 ≤ 9223372036854775807) → Dims m n (puts L qs) := by
  intro qs
  induction qs generalizing L with
  | nil => intro _; exact h
  | cons q qs ih => intro hq; exact ih (h.set _ _ (hq q (by simp)).1 (hq q (by simp)).2) (fun r hr => hq r (by simp [hr]))
theorem flat_dims {m n : Nat} {L : List (List Int)} (h : Dims m n L) : L.flatten.length = m * n := by
  have key : ∀ (L : List (List Int)), (∀ r ∈ L, r.length = n) → L.flatten.length = L.length * n := by
    intro L
    induction L with
    | nil => intro _; simp
    | cons r L ih =>
      intro hr
      rw [List.flatten_cons, List.length_append, ih (fun q hq => hr q (by simp [hq])), hr r (by simp), List.length_cons, Nat.succ_mul, Nat.add_comm]
  rw [key L (fun r hr => (h.rows r hr).1), h.len]
theorem row_back : ∀ {xs ys : List Int}, xs.length = ys.length → rowS (-1) (rowS 1 xs ys) ys = xs
  | [], [], _ => rfl
  | [], _ :: _, h => by simp at h
  | _ :: _, [], h => by simp at h
  | x :: xs, y :: ys, h => by
    have ih := row_back (xs := xs) (ys := ys) (by simpa using h)
    unfold rowS at ih ⊢
    simp only [List.zipWith_cons_cons, ih]
    congr 1; omega
theorem row_self : ∀ (xs : List Int), rowS (-1) xs xs = List.replicate xs.length 0
  | [] => rfl
  | x :: xs => by
    have ih := row_self xs
    unfold rowS at ih ⊢
    simp only [List.zipWith_cons_cons, List.length_cons, List.replicate_succ, ih]
    congr 1; omega
theorem grid_back {m n : Nat} : ∀ {L M : List (List Int)}, (∀ r ∈ L, r.length = n) → (∀ r ∈ M, r.length = n) → L.length = M.length → gridS (-1) (gridS 1 L M) M = L
  | [], [], _, _, _ => rfl
  | [], _ :: _, _, _, h => by simp at h
  | _ :: _, [], _, _, h => by simp at h
  | x :: xs, y :: ys, h1, h2, h => by
    have ih := grid_back (m := m) (L := xs) (M := ys) (fun r hr => h1 r (by simp [hr])) (fun r hr => h2 r (by simp [hr])) (by simpa using h)
    unfold gridS at ih ⊢
    simp only [List.zipWith_cons_cons, ih]
    rw [row_back (by rw [h1 x (by simp), h2 y (by simp)])]
theorem grid_self {n : Nat} : ∀ {L : List (List Int)}, (∀ r ∈ L, r.length = n) → gridS (-1) L L = zerosL L.length n
  | [], _ => rfl
  | x :: xs, h => by
    have ih := grid_self (L := xs) (fun r hr => h r (by simp [hr]))
    unfold gridS zerosL at ih ⊢
    simp only [List.zipWith_cons_cons, List.length_cons, List.replicate_succ, ih]
    rw [row_self, h x (by simp)]
theorem fits_dims {m n : Nat} {L : List (List Int)} (h : Dims m n L) : fitsAll L = true := by
  refine List.all_eq_true.2 fun r hr => List.all_eq_true.2 fun v hv => ?_
  have := (h.rows r hr).2 v hv
  simp [Wid.fit64]
  omega
theorem back_dims {m n : Nat} {L M : List (List Int)} (h : Dims m n L) (g : Dims m n M) : gridS (-1) (gridS 1 L M) M = L :=
  grid_back (m := m) (fun r hr => (h.rows r hr).1) (fun r hr => (g.rows r hr).1) (by rw [h.len, g.len])
theorem self_dims {m n : Nat} {L : List (List Int)} (h : Dims m n L) : gridS (-1) L L = zerosL m n := by
  have := grid_self (n := n) (L := L) (fun r hr => (h.rows r hr).1)
  rwa [h.len] at this
theorem jcode_yes {s : Int} {m n : Nat} {L M : List (List Int)} (h : fitsAll (gridS s L M) = true) : jcode s m n m n L M = 0 ∧ jres s m n m n L M = gridS s L M := by
  simp [jcode, jres, h]
theorem jcode_no {s : Int} {m n : Nat} {L M : List (List Int)} (h : fitsAll (gridS s L M) = false) : jcode s m n m n L M = 4 ∧ jres s m n m n L M = L := by
  simp [jcode, jres, h]
theorem row1_at {w : World} {A : Option Addr} {Z : List Int} (h : Row1 w A Z) {k : Nat} {v : Int} (hv : Z[k]? = some v) (x : Int) :
    ∃ (a : Addr), A = some a ∧ w.cell? (a.add k) = some (.int .i64 v) ∧ w.frozen? (a.add k) = false ∧ Row1 (w.setCell (a.add k) (.int .i64 x)) A (Z.set k x) ∧ Kept (rowT A Z).F w (w.setCell (a.add k) (.int .i64 x)) := by
  cases A with
  | none => rw [h.1 rfl] at hv; simp at hv
  | some a =>
    obtain ⟨g, i, rfl, hm⟩ := h.2 a rfl
    refine ⟨⟨g, i, none⟩, rfl, ?_, ?_, ⟨(fun h => by cases h), fun a ha => ?_⟩, ?_⟩
    · rw [Ord.add_at]; exact hm.cell hv
    · rw [Ord.add_at]; exact hm.frozen _
    · injection ha with ha
      subst ha
      refine ⟨g, i, rfl, ?_⟩
      rw [Ord.add_at]
      exact hm.set k x
    · rw [Ord.add_at]
      exact (Kept.refl _ w).set (.inl ⟨_, rfl, rfl⟩) _ _
theorem at_apart {m n : Nat} {L : List (List Int)} (h : Dims m n L) (row col x : Int) (hne : ¬ (row = 0 ∧ col = 0)) : at2 (setL L row col x) 0 0 = at2 L 0 0 := by
  unfold setL
  split
  · rename_i hi
    rw [in2_dims h] at hi
    have hi := of_decide_eq_true hi
    unfold at2
    rw [if_neg (by omega), if_neg (by omega), List.getElem?_modify]
    cases hL : L[(0 : Int).toNat]? with
    | none => rfl
    | some r =>
      by_cases hr : row.toNat = 0
      · have hc : col.toNat ≠ 0 := by omega
        simp [hr, hc]
      · have hr2 : ¬ row.toNat = (0 : Int).toNat := hr
        simp only [Option.map_eq_map, Option.map_some, if_neg hr2]
  · rfl
/-- Small enough to be doubled. -/
def in62 (v : Int) : Bool := decide (-4611686018427387904 ≤ v ∧ v < 4611686018427387904)
theorem row_twice (xs : List Int) : rowS 1 xs xs = xs.map (2 * ·) := by
  induction xs with
  | nil => rfl
  | cons x xs ih =>
    unfold rowS at ih ⊢
    simp only [List.zipWith_cons_cons, List.map_cons, ih]
    congr 1; omega
theorem grid_twice (L : List (List Int)) : gridS 1 L L = L.map (fun r => r.map (2 * ·)) := by
  induction L with
  | nil => rfl
  | cons x xs ih =>
    unfold gridS at ih ⊢
    simp only [List.zipWith_cons_cons, List.map_cons, ih, row_twice]
theorem twice_flat (L : List (List Int)) : (gridS 1 L L).flatten = L.flatten.map (2 * ·) := by
  rw [grid_twice, List.map_flatten]
theorem twice_fits (L : List (List Int)) : fitsAll (gridS 1 L L) = L.flatten.all in62 := by
  rw [grid_twice]
  unfold fitsAll
  rw [List.all_map, List.all_flatten]
  congr 1
  funext r
  simp only [Function.comp_apply, List.all_map]
  congr 1
  funext v
  simp only [Function.comp_apply, Wid.fit64, in62]
  congr 1
  apply propext
  constructor <;> intro h <;> omega
theorem zeros_flat {m n : Nat} : ∀ v ∈ (zerosL m n).flatten, v = 0 := by
  intro v hv
  obtain ⟨r, hr, hv⟩ := List.mem_flatten.1 hv
  have := (List.mem_replicate.1 hr).2
  subst this
  exact (List.mem_replicate.1 hv).2
end Go.Proofs.YtkannodfamnmcaaGreat.Grd
/- The walks of the document's own answers for layer 6: New, Cells, Same. Printed by wip/gen/grd.py. -/
namespace Go.Proofs.YtkannodfamnmcaaGreat.Grd
open Go Go.RowKit Lw
set_option linter.unusedVariables false
theorem rep_next (j : Nat) : List.replicate (j + 1) (0 : Int) = List.replicate j 0 ++ [0] := by rw [List.replicate_succ']
theorem cl_lt {n : Int} {m k : Nat} (h : k < cl n m) : (k : Int) < n ∧ (k : Int) < m := by unfold cl at h; omega
theorem cl_ge {n : Int} {m k : Nat} (h : ¬ k < cl n m) : ¬ (k : Int) < n ∨ ((k : Int) < n ∧ ¬ (k : Int) < m) := by unfold cl at h; omega
/-- A new grid: all is 0, and all of it is new memory. -/
def Fresh (w : World) (b : Nat) (hdr : Value) (R : List Row) : Prop := ∀ q, RF b hdr R q → w.heap.size ≤ q
def Zeros (m n : Nat) (R : List Row) : Prop := nums R = List.replicate m (List.replicate n 0)
theorem zeros_push {m n : Nat} {R : List Row} (h : Zeros m n R) (g c : Nat) : Zeros (m + 1) n (R ++ [(g, c, List.replicate n 0)]) := by
  unfold Zeros nums at *
  rw [List.map_append, h, List.replicate_succ']
  rfl
theorem new_round {w wo wr w3 : World} {hdr : Value} {R : List Row} {k j g cp g3 cap3 : Nat} (HG : RG wo w.heap.size hdr R) (hbi : Below wo.heap.size wo wr)
    (ho : wr.ownsRow wo.heap.size 2 1 (.slice (some ⟨g, 0, none⟩) j cp) j ((List.replicate j 0).map (Value.int .i64))) (hg : wo.heap.size ≤ g)
    (own3 : w3.ownsRow 0 45 1 (.slice (some ⟨g3, 0, none⟩) (R.length + 1) cap3) (R.length + 1) (R.map rowHd ++ [.slice (some ⟨g, 0, none⟩) j cp]))
    (grow3 : (wr.alloc (.cells #[.slice (some ⟨g, 0, none⟩) j cp] 45)).grownBy w3 hdr.ownBlock) (hat3 : hdr.ownBlock = some g3 ∨ g3 = (wr.alloc (.cells #[.slice (some ⟨g, 0, none⟩) j cp] 45)).heap.size)
    (hB3 : w3.heap[w.heap.size]? = some (.cells #[hdr] 104 (0, 0))) (HZ : Zeros k j R) (HF : Fresh w w.heap.size hdr R) (HB : Below w.heap.size w wo) (hk : R.length = k) :
    RG (w3.setCell ⟨w.heap.size, 0, none⟩ (.slice (some ⟨g3, 0, none⟩) (k + 1) cap3)) w.heap.size (.slice (some ⟨g3, 0, none⟩) (k + 1) cap3) (R ++ [(g, cp, List.replicate j 0)]) ∧
      Zeros (k + 1) j (R ++ [(g, cp, List.replicate j 0)]) ∧ Fresh w w.heap.size (.slice (some ⟨g3, 0, none⟩) (k + 1) cap3) (R ++ [(g, cp, List.replicate j 0)]) ∧ Below w.heap.size w (w3.setCell ⟨w.heap.size, 0, none⟩ (.slice (some ⟨g3, 0, none⟩) (k + 1) cap3)) := by
  subst hk
  have hbl := HG.blt (.inl rfl)
  have hol : ∀ q, hdr.ownBlock = some q → q < wo.heap.size := fun q hq => HG.blt (.inr (.inl hq))
  have hgl := own_lt ho (g := g) rfl
  have hbs := hbi.size
  have hsz : (wr.alloc (.cells #[.slice (some ⟨g, 0, none⟩) j cp] 45)).heap.size = wr.heap.size + 1 := by simp
  have K3 : Kept (fun q => q = w.heap.size ∨ hdr.ownBlock = some q) wo w3 := ((Kept.of_below hbi).alloc _).grown grow3 (fun q hq => .inl (.inr hq))
  have K4 : Kept (fun q => q = w.heap.size ∨ hdr.ownBlock = some q) wo (w3.setCell ⟨w.heap.size, 0, none⟩ (.slice (some ⟨g3, 0, none⟩) (R.length + 1) cap3)) := K3.set (.inl (.inl rfl)) 0 _
  have g3b : g3 ≠ w.heap.size := by
    rcases hat3 with h1 | h1
    · intro e; exact HG.apart1 (by rw [h1, e])
    · omega
  refine ⟨HG.push (c := cp) K4 ?_ ?_ ?_ hg ?_, zeros_push HZ g cp, ?_, K4.low HB HB.size ?_⟩
  · have := heap_setCell_same w3 w.heap.size 0 _ _ (.slice (some ⟨g3, 0, none⟩) (R.length + 1) cap3) hB3
    simpa using this
  · have h1 := (Kept.set (F := fun q => q = w.heap.size) (Kept.refl _ w3) (.inl rfl) 0 (.slice (some ⟨g3, 0, none⟩) (R.length + 1) cap3)).own own3 (fun q hq e => g3b (by simp [Value.ownBlock] at hq; omega))
    simpa [rowHd] using h1
  · have K5 : Kept (fun q => q = w.heap.size ∨ hdr.ownBlock = some q) wr (w3.setCell ⟨w.heap.size, 0, none⟩ (.slice (some ⟨g3, 0, none⟩) (R.length + 1) cap3)) := (((Kept.refl _ wr).alloc _).grown grow3 (fun q hq => .inl (.inr hq))).set (.inl (.inl rfl)) 0 _
    have h1 := K5.own ho (fun q hq e => by
      simp [Value.ownBlock] at hq
      rcases e with e | e
      · omega
      · have := hol q e; omega)
    have h2 := own_mono h1 (Nat.zero_le wo.heap.size)
    simpa [rowHd] using h2
  · rcases hat3 with h1 | h1
    · exact .inl (by rw [h1]; rfl)
    · exact .inr ⟨g3, rfl, by omega, by omega⟩
  · intro q hq
    have hbb := HB.size
    rcases hq with rfl | hq | ⟨r, hr, rfl⟩
    · exact Nat.le_refl _
    · simp [Value.ownBlock] at hq
      subst hq
      rcases hat3 with h1 | h1
      · exact HF _ (.inr (.inl h1))
      · omega
    · rcases List.mem_append.1 hr with h1 | h1
      · exact HF _ (.inr (.inr ⟨r, h1, rfl⟩))
      · simp at h1
        subst h1
        simp only
        omega
  · intro q hq
    rcases hq with rfl | hq
    · exact Nat.le_refl _
    · exact HF q (.inr (.inl hq))
set_option maxRecDepth 100000 in
set_option maxHeartbeats 4000000 in
theorem rnew_any (rows width : Int) (w : World) (r0 : -9223372036854775808 ≤ rows) (r1 : rows ≤ 9223372036854775807) (c0 : -9223372036854775808 ≤ width) (c1 : width ≤ 9223372036854775807) :
    Calls Tryz.prog 60 #[.int .i64 rows, .int .i64 width] w fun e w' => ∃ (b : Nat) (hdr : Value) (R : List Row), e = .returned (.pointer (some ⟨b, 0, none⟩)) ∧ RG w' b hdr R ∧ Zeros (cl rows 8) (cl width 128) R ∧ Fresh w b hdr R ∧ Below w.heap.size w w' := by
  obtain ⟨i0, hi, hz0, hz1, hz2⟩ := info_parts i64_info
  obtain ⟨j0, hj, hy0, hy1, hy2⟩ := info_parts rows_info
  have hm8 : cl rows 8 ≤ 8 := by unfold cl; omega
  have hw128 : cl width 128 ≤ 128 := by unfold cl; omega
  have HCL := Lib.hid (fun k h => cl_lt (n := rows) (m := 8) (k := k) h)
  have HCG := Lib.hid (fun k h => cl_ge (n := rows) (m := 8) (k := k) h)
  have HWL := Lib.hid (fun k h => cl_lt (n := width) (m := 128) (k := k) h)
  have HWG := Lib.hid (fun k h => cl_ge (n := width) (m := 128) (k := k) h)
  obtain ⟨M, hM⟩ : ∃ M, cl rows 8 = M := ⟨_, rfl⟩
  obtain ⟨W, hW⟩ : ∃ W, cl width 128 = W := ⟨_, rfl⟩
  rw [hM] at HCL HCG hm8 ⊢
  rw [hW] at HWL HWG hw128 ⊢
  clear hM hW
  go_enter Tryz.func60, Tryz.ntmps60
  go_wp2
  go_loopw [6] (fun i wr => ∃ (k : Nat) (hdr : Value) (R : List Row), k ≤ M ∧ R.length = k ∧ i = .int .i64 k ∧ RG wr w.heap.size hdr R ∧ Zeros k W R ∧ Fresh w w.heap.size hdr R ∧ Below w.heap.size w wr) (fun i _ => M - (intOf i).toNat)
  case atStart =>
    refine ⟨0, .slice none 0 0, [], Nat.zero_le _, rfl, rfl, ⟨heap_alloc_new w _, World.ownsRow_nil _ _ _ _, (fun r h => by cases h), (fun h => by simp [Value.ownBlock] at h), (fun r h => by cases h), by simp⟩, rfl, ?_, Lw.below_alloc (Below.refl _ _) _⟩
    intro q hq
    rcases hq with rfl | hq | ⟨r, hr, _⟩
    · exact Nat.le_refl _
    · simp [Value.ownBlock] at hq
    · cases hr
  case round =>
    obtain ⟨k, hdr, R, hk, hRl, rfl, hrg, hzr, hfr, hbel⟩ := hrel
    have HG := Lib.hid hrg
    have HZ := Lib.hid hzr
    have HF := Lib.hid hfr
    have HB := Lib.hid hbel
    have HRL := Lib.hid hRl
    have hbs := hbel.size
    clear hrg hzr hfr hbel hRl
    by_cases hlt : k < M
    · obtain ⟨g1, g2⟩ : (k : Int) < rows ∧ (k : Int) < 8 := by have := HCL.out k hlt; omega
      obtain ⟨wo, rfl⟩ : ∃ wo, wo = wr := ⟨_, rfl⟩
      go_wp2
      go_loopw [7, 8] (fun v c wi => ∃ (j g cp : Nat), j ≤ W ∧ c = .int .i64 j ∧ v = .slice (some ⟨g, 0, none⟩) j cp ∧ wi.ownsRow wo.heap.size 2 1 v j ((List.replicate j 0).map (Value.int .i64)) ∧ wo.heap.size ≤ g ∧ Below wo.heap.size wo wi) (fun _ c _ => W - (intOf c).toNat)
      case atStart => exact ⟨0, wo.heap.size, 0, Nat.zero_le _, rfl, rfl, own_empty wo _ _ _ (Nat.le_refl _), Nat.le_refl _, Lw.below_alloc (Below.refl _ _) _⟩
      case round =>
        obtain ⟨j, g, cp, hjw, rfl, rfl, hown, hg, hbi⟩ := hrel
        have hbis := hbi.size
        by_cases hjl : j < W
        · obtain ⟨e1, e2⟩ : (j : Int) < width ∧ (j : Int) < 128 := by have := HWL.out j hjl; omega
          have HN := Lib.hid (rep_next j)
          have HBI := Lib.hid hbi
          clear hbi
          go_wp2_with (at_builtin; (refine app_one .i64 rfl _ _ 45 rfl wo.heap.size 2 i0 8 i64s_u hi hz0 hz1 hz2 (.slice (some ⟨g, 0, none⟩) j cp) j (List.replicate j 0) rfl (hown.alloc _) 0 wr.heap.size rfl (cell_one_new _ _ _) (by unfold maxLen; omega) (by omega) (by simp; omega) ?_); intro v1 w1 own1 grow1 oth1; obtain ⟨gg, cc, rfl, hgg, hgl⟩ := own1.form (by omega); have hb1 : Below wo.heap.size wo w1 := app_below3 (Lw.below_alloc HBI.out _) grow1 (fun q hq => own_ge hown q hq))
          go_roundw
          case rel => exact ⟨j + 1, gg, cc, by omega, by go_num, rfl, by rw [HN.out]; exact own1, hgg, hb1⟩
          case measure => simp [intOf]; omega
        · have e : j = W := by omega
          subst e
          have hrg1 := HG.out.keep (Kept.of_below (F := fun _ => False) hbi) (fun _ _ h => h)
          have hhd := cell_of_row wr w.heap.size 0 _ _ _ hrg1.cell
          simp only [List.getElem?_toArray, List.getElem?_cons_zero] at hhd
          have hlt1 := hrg1.blt (.inl rfl)
          have HG1 := Lib.hid hrg1
          have HBI := Lib.hid hbi
          have HO := Lib.hid hown
          have hk8 : k ≤ 8 := by omega
          clear hrg1 hbi hown
          have e0 : ¬ (j : Int) < width ∨ ((j : Int) < width ∧ ¬ (j : Int) < 128) := by have := HWG.out j (by omega); omega
          rcases e0 with e1 | ⟨e1, e2⟩
          all_goals go_wp2_with (at_builtin; (refine app_val rfl _ _ 102 rfl 0 45 j0 (.slice none 0 0) 24 rows_u hj hy0 hy1 hy2 rfl hdr k (R.map rowHd) rfl (by have h7 := HG1.out.outer.alloc (.cells #[.slice (some ⟨g, 0, none⟩) j cp] 45); rw [HRL.out] at h7; exact h7) (.slice (some ⟨g, 0, none⟩) j cp) wr.heap.size rfl (cell_one_new _ _ _) rfl (by unfold maxLen; omega) (by omega) (by omega) ?_); intro g3 cap3 w3 own3 grow3 hat3 hl3; have hB3 : w3.heap[w.heap.size]? = some (.cells #[hdr] 104 (0, 0)) := by { rw [grow3.block _ (by simp; omega) (fun e => HG1.out.apart1 e.symm)]; exact (Kept.alloc (F := fun _ => False) (Kept.refl _ wr) _).heap HG1.out.cell (fun h => h) }; have hfz3 := frozen_of_row w3 w.heap.size 0 _ _ hB3; have hcl3 := cell_of_row w3 w.heap.size 0 _ _ _ hB3; simp only [List.getElem?_toArray, List.getElem?_cons_zero] at hcl3)
          all_goals go_roundw
          all_goals first
            | (simp [intOf]; omega)
            | (refine ⟨k + 1, .slice (some ⟨g3, 0, none⟩) (k + 1) cap3, R ++ [(g, cp, List.replicate j 0)], by omega, by simp [HRL.out], by go_num, ?_⟩; exact new_round HG.out HBI.out HO.out hg (by rw [HRL.out]; exact own3) grow3 hat3 hB3 HZ.out HF.out HB.out HRL.out)
    · have e : k = M := by omega
      subst e
      have e0 : ¬ (k : Int) < rows ∨ ((k : Int) < rows ∧ ¬ (k : Int) < 8) := by have := HCG.out k (by omega); omega
      rcases e0 with e1 | ⟨e1, e2⟩
      all_goals go_wp2
      all_goals go_ret
      all_goals refine ⟨w.heap.size, ?_, hdr, R, HG.out, HZ.out, HF.out, HB.out⟩
      all_goals rfl
theorem flat_next (L : List (List Int)) (k : Nat) (zs : List Int) (h : L[k]? = some zs) : (L.take (k + 1)).flatten = (L.take k).flatten ++ zs := by
  obtain ⟨hk, e⟩ := List.getElem?_eq_some_iff.1 h
  rw [List.take_succ_eq_append_getElem hk, List.flatten_append, e]
  simp
theorem flat_len (L : List (List Int)) (k m : Nat) (h : ∀ zs ∈ L, zs.length ≤ m) : (L.take k).flatten.length ≤ k * m := by
  induction k with
  | zero => simp
  | succ k ih =>
    rcases Nat.lt_or_ge k L.length with h1 | h1
    · rw [flat_next L k _ (List.getElem?_eq_getElem h1), List.length_append, Nat.succ_mul]
      have := h _ (List.getElem_mem h1)
      omega
    · rw [List.take_of_length_le (by omega)]
      rw [List.take_of_length_le h1] at ih
      rw [Nat.succ_mul]
      omega
set_option maxRecDepth 100000 in
set_option maxHeartbeats 2000000 in
theorem rcells_any (b : Nat) (hdr : Value) (R : List Row) (Z : List Int) (w : World) (h : RG w b hdr R) (hZ : (nums R).flatten = Z) (hn : R.length ≤ 8) (hm : ∀ r ∈ R, r.2.2.length ≤ 128) :
    Calls Tryz.prog 52 #[.pointer (some ⟨b, 0, none⟩)] w fun e w' => ∃ (A : Addr) (cap : Nat), e = .returned (.slice (some A) Z.length cap) ∧ Rd .i64 w' (some A) Z ∧ Z.length ≤ cap ∧ cap ≤ maxLen ∧ w.heap.size ≤ A.block ∧ Below w.heap.size w w' := by
  obtain ⟨i0, hi, hz0, hz1, hz2⟩ := info_parts i64_info
  have HG := Lib.hid h
  have HZZ := Lib.hid hZ
  clear hZ
  obtain ⟨A, cap, rfl, hcap, hA, hcell⟩ := h.hd
  have hb := cell_of_row w b 0 _ _ _ h.cell
  simp only [List.getElem?_toArray, List.getElem?_cons_zero] at hb
  have hlen : (nums R).length = R.length := by simp [nums]
  have HLM := Lib.hid (fun k => flat_len (nums R) k 128 (fun zs hz => by obtain ⟨r, hr, rfl⟩ := List.mem_map.1 hz; exact hm r hr))
  have HC := Lib.hid hcell
  have HLEN := Lib.hid hlen
  have HM := Lib.hid hm
  clear h hcell hA hlen hm
  go_enter Tryz.func52, Tryz.ntmps52
  go_wp2
  go_loopw [3, 4] (fun v i wr => ∃ (k n : Nat) (ad : Addr) (cp : Nat), k ≤ R.length ∧ i = .int .i64 k ∧ n = ((nums R).take k).flatten.length ∧ v = .slice (some ad) n cp ∧ wr.ownsRow w.heap.size 2 1 v n (((nums R).take k).flatten.map (Value.int .i64)) ∧ Below w.heap.size w wr) (fun _ i _ => R.length - (intOf i).toNat)
  case atStart => exact ⟨0, 0, _, 0, Nat.zero_le _, rfl, rfl, rfl, own_empty w _ _ _ (Nat.le_refl _), Lw.below_alloc (Below.refl _ _) _⟩
  case round =>
    obtain ⟨k, n, ad, cp, hk, rfl, hnn, rfl, hown, hbel⟩ := hrel
    have hbr := cell_up hb hbel
    have hlm := HLM.out k
    have hbs := hbel.size
    by_cases hlt : k < R.length
    · obtain ⟨r, hr⟩ : ∃ r, R[k]? = some r := ⟨_, List.getElem?_eq_getElem hlt⟩
      obtain ⟨oad, rfl, hcr⟩ := HC.out k r hr
      have hrm := List.mem_of_getElem? hr
      have hml := HM.out r hrm
      have hcr2 := cell_up hcr hbel
      have hrd : Rd .i64 w (some ⟨r.1, 0, none⟩) r.2.2 := fun j v hv => ⟨_, rfl, HG.out.numAt hrm hv⟩
      have HN := Lib.hid (flat_next (nums R) k r.2.2 (by simp [nums, hr]))
      have HRD := Lib.hid (hrd.up hbel)
      have HB := Lib.hid hbel
      have HNN := Lib.hid hnn
      have hn2 : n ≤ 1024 := by omega
      clear hlm
      obtain ⟨g, gc, zs⟩ := r
      unfold rowHd at hcr2
      simp only at hcr2 hml HRD HN
      clear hr hcr hrd hbel hnn hrm
      go_wp2_with (at_builtin; (refine app_any .i64 rfl _ _ 45 rfl w.heap.size 2 i0 8 i64s_u hi hz0 hz1 hz2 (.slice (some ad) n cp) n ((nums R).take k).flatten rfl hown (fun h => by cases h) (some ⟨g, 0, none⟩) zs.length gc zs rfl (by simp) rfl HRD.out (by unfold maxLen; omega) (by omega) hbs ?_); intro A2 cap2 w2 own2 grow2 rd2 c2 d2; have hb2 : Below w.heap.size w w2 := app_below3 HB.out grow2 (fun q hq => own_ge hown q hq))
      go_roundw
      case rel => exact ⟨k + 1, n + zs.length, A2, cap2, by omega, by go_num, by rw [HN.out, List.length_append, ← HNN.out], rfl, by rw [HN.out]; exact own2, hb2⟩
      case measure => simp [intOf]; omega
    · have e : k = R.length := by omega
      subst e
      rw [List.take_of_length_le (by have := HLEN.out; omega), HZZ.out] at hown hnn hlm
      subst hnn
      obtain ⟨A2, c2, e2, hrd, h1, h2, h3⟩ := own_rd hown
      injection e2 with e3 e4 e5
      subst e3
      subst e5
      have hge := own_ge hown ad.block rfl
      have HO := Lib.hid hrd
      have HB := Lib.hid hbel
      clear hown hrd hbel h3
      go_wp2
      go_ret
      exact ⟨_, _, rfl, HO.out, h1, h2, hge, HB.out⟩
set_option maxRecDepth 100000 in
set_option maxHeartbeats 2000000 in
theorem rsame_any (A B : Option Addr) (n m ca cb : Nat) (xs ys : List Int) (w : World) (ha : Rd .i64 w A xs) (hb : Rd .i64 w B ys) (hla : xs.length = n) (hlb : ys.length = m) (hn : n ≤ 9223372036854775807) (hm : m ≤ 9223372036854775807) :
    Calls Tryz.prog 22 #[.slice A n ca, .slice B m cb] w fun e w' => e = .returned (.bool (decide (xs = ys))) ∧ Below w.heap.size w w' := by
  have HA := Lib.hid ha
  have HB := Lib.hid hb
  have HLA := Lib.hid hla
  have HLB := Lib.hid hlb
  clear ha hb
  by_cases hnm : n = m
  · subst hnm
    clear hla hlb
    go_enter Tryz.func22, Tryz.ntmps22
    go_wp2
    go_loopw [5] (fun i wr => ∃ k d : Nat, k ≤ n ∧ i = .int .i64 k ∧ xs.take k = ys.take k ∧ wr = w.drewN d) (fun i _ => n - (intOf i).toNat)
    case atStart => exact ⟨0, 0, Nat.zero_le _, rfl, rfl, rfl⟩
    case round =>
      obtain ⟨k, d, hk, rfl, heq, rfl⟩ := hrel
      have HE := Lib.hid heq
      clear heq
      by_cases hlt : k < n
      · obtain ⟨x, hx⟩ : ∃ x, xs[k]? = some x := ⟨_, List.getElem?_eq_getElem (by have := HLA.out; omega)⟩
        obtain ⟨y, hy⟩ : ∃ y, ys[k]? = some y := ⟨_, List.getElem?_eq_getElem (by have := HLB.out; omega)⟩
        obtain ⟨ad, rfl, hcx⟩ := HA.out k x hx
        obtain ⟨bd, rfl, hcy⟩ := HB.out k y hy
        by_cases hxy : x = y
        · have HN : Hid (xs.take (k + 1) = ys.take (k + 1)) := Lib.hid (by
            rw [List.take_add_one, List.take_add_one, HE.out, hx, hy, hxy])
          subst hxy
          clear hx hy
          go_wp2
          go_quiet (fail)
          go_wp2
          go_roundw
          case rel => exact ⟨k + 1, _, by omega, by go_num, HN.out, rfl⟩
          case measure => simp [intOf]; omega
        · have HD : Hid (decide (xs = ys) = false) := Lib.hid (decide_eq_false (fun e => hxy (by rw [e, hy] at hx; injection hx with hx; exact hx.symm)))
          have hne : (x == y) = false := by simpa using hxy
          have hne2 : (x != y) = true := by simpa using hxy
          clear hx hy hxy
          go_wp2
          go_quiet (fail)
          go_wp2
          go_ret
          exact ⟨ret_b HD.out.symm, by first | exact below_drewN (Below.refl _ _) _ | exact below_drewN (below_drewN (Below.refl _ _) _) _⟩
      · have e : k = n := by omega
        subst e
        have HD : Hid (decide (xs = ys) = true) := Lib.hid (decide_eq_true (by
          have := HE.out
          rwa [List.take_of_length_le (by have := HLA.out; omega), List.take_of_length_le (by have := HLB.out; omega)] at this))
        go_wp2
        go_ret
        exact ⟨ret_b HD.out.symm, by first | exact below_drewN (Below.refl _ _) _ | exact below_drewN (below_drewN (Below.refl _ _) _) _⟩
  · have hne : ((n : Int) == (m : Int)) = false := by simp; omega
    have hne2 : ((n : Int) != (m : Int)) = true := by simp; omega
    have HD : Hid (decide (xs = ys) = false) := Lib.hid (decide_eq_false (fun e => hnm (by rw [← hla, ← hlb, e])))
    clear hla hlb hnm
    go_enter Tryz.func22, Tryz.ntmps22
    go_wp2
    go_ret
    exact ⟨ret_b HD.out.symm, Below.refl _ _⟩
end Go.Proofs.YtkannodfamnmcaaGreat.Grd
/- The walks of package grid (the code's): a grid is a block of its rows, columns and one row of all cells. -/
namespace Go.Proofs.YtkannodfamnmcaaGreat.Grd
open Go Go.RowKit Lw
set_option linter.unusedVariables false
set_option linter.unusedSimpArgs false
/-- A grid of the code at p, in the blocks F: m rows, n columns, the numbers L. -/
def PG (w : World) (p : Addr) (F : Nat → Prop) (m n : Nat) (L : List (List Int)) : Prop :=
  Dims m n L ∧ ∃ (b g cap : Nat), p = ⟨b, 0, none⟩ ∧ w.heap[b]? = some (.cells #[.int .i64 m, .int .i64 n, .slice (some ⟨g, 0, none⟩) (m * n) cap] 157 (0, 0)) ∧ Ord.Mid w g 0 L.flatten ∧ m * n ≤ cap ∧ cap ≤ maxLen ∧ b ≠ g ∧ F = (fun k => k = b ∨ k = g)
theorem PG.dims {w : World} {p : Addr} {F : Nat → Prop} {m n : Nat} {L : List (List Int)} (h : PG w p F m n L) : Dims m n L := h.1
theorem size_of_heap {w : World} {b : Nat} {o : Obj} (h : w.heap[b]? = some o) : b < w.heap.size := by
  rcases Nat.lt_or_ge b w.heap.size with h1 | h1
  · exact h1
  · rw [Array.getElem?_eq_none h1] at h; cases h
def pgT (p : Addr) (F : Nat → Prop) (m n : Nat) (L : List (List Int)) : Thing where
  I := fun w => PG w p F m n L
  F := F
  keep := fun w w' H h hk hf => by
    obtain ⟨hd, b, g, cap, rfl, hb, hm, h1, h2, h3, rfl⟩ := h
    exact ⟨hd, b, g, cap, rfl, hk.heap hb (hf b (.inl rfl)), hm.keep hk (hf g (.inr rfl)), h1, h2, h3, rfl⟩
  lt := fun w h k hk => by
    obtain ⟨hd, b, g, cap, rfl, hb, hm, h1, h2, h3, rfl⟩ := h
    rcases hk with rfl | rfl
    · exact size_of_heap hb
    · exact hm.lt
theorem clamped_any (n M : Int) (m : Nat) (w : World) (hM : M = m) (n0 : -9223372036854775808 ≤ n) (n1 : n ≤ 9223372036854775807) (hm : m ≤ 128) :
    Calls Tryz.prog 94 #[.int .i64 n, .int .i64 M] w fun e w' => e = .returned (.int .i64 (cl n m)) ∧ w' = w := by
  go_enter Tryz.func94, Tryz.ntmps94
  go_wp2
  all_goals
    go_ret
    refine ⟨ret_i ?_, rfl⟩
    unfold cl
    omega
theorem cl_le (n : Int) (m : Nat) : cl n m ≤ m := by unfold cl; omega
theorem zeros_flat2 (m n : Nat) : (zerosL m n).flatten = List.replicate (m * n) 0 := by
  unfold zerosL
  rw [List.flatten_replicate_replicate]
theorem mid_made (w : World) (q : Nat) (e : TypeId) : Ord.Mid (w.alloc (.cells (madeCells #[.int .i64 0] q) e)) w.heap.size 0 (List.replicate q 0) := by
  refine ⟨_, _, heap_alloc_new w _, fun j v hv => ?_⟩
  have h2 := toList_madeCells_one (.int .i64 0) q
  rw [List.getElem?_replicate] at hv
  split at hv
  · rename_i hj
    injection hv with hv
    subst hv
    rw [← Array.getElem?_toList, h2, Nat.zero_add, List.getElem?_replicate, if_pos hj]
  · cases hv
set_option maxRecDepth 100000 in
theorem new_any (rows width : Int) (w : World) (r0 : -9223372036854775808 ≤ rows) (r1 : rows ≤ 9223372036854775807) (c0 : -9223372036854775808 ≤ width) (c1 : width ≤ 9223372036854775807) :
    Calls Tryz.prog 58 #[.int .i64 rows, .int .i64 width] w fun e w' => ∃ (p : Addr) (F : Nat → Prop), e = .returned (.pointer (some p)) ∧ PG w' p F (cl rows 8) (cl width 128) (zerosL (cl rows 8) (cl width 128)) ∧ (∀ k, F k → w.heap.size ≤ k) ∧ Below w.heap.size w w' := by
  obtain ⟨i0, hi, hz0, hz1, hz2⟩ := info_parts i64_info
  obtain ⟨m, hm⟩ : ∃ m, m = cl rows 8 := ⟨_, rfl⟩
  obtain ⟨n, hn⟩ : ∃ n, n = cl width 128 := ⟨_, rfl⟩
  have m8 : m ≤ 8 := hm ▸ cl_le rows 8
  have n128 : n ≤ 128 := hn ▸ cl_le width 128
  have C1 := Lib.hid (fun w => hm ▸ clamped_any rows 8 8 w rfl r0 r1 (by omega))
  have C2 := Lib.hid (fun w => hn ▸ clamped_any width 128 128 w rfl c0 c1 (by omega))
  rw [← hm, ← hn]
  obtain ⟨q, hq⟩ : ∃ q, q = m * n := ⟨_, rfl⟩
  have hqi : (m : Int) * n = (q : Int) := by rw [hq]; simp
  have hq1 : q ≤ 1024 := by rw [hq]; exact Nat.le_trans (Nat.mul_le_mul m8 n128) (by decide)
  have HD := Lib.hid (dims_zeros m8 n128)
  have HZ := Lib.hid (zeros_flat2 m n)
  have HQ := Lib.hid hq
  clear hm hn hq
  have hmk : ∀ w, (Instr.makeSlice 45 (.int .i64 (q : Int)) (.int .i64 (q : Int))).run Tryz.prog w = .ok (.slice (some ⟨w.heap.size, 0, none⟩) q q) (w.alloc (.cells (madeCells #[.int .i64 0] q) 2)) := by
    intro w
    have h := run_make (P := Tryz.prog) w 45 2 i0 (.int .i64 0) i64s_u hi hz0 .i64 .i64 q q (by omega) (Int.le_refl _) (by rw [hz2]; omega) (by omega)
    rw [hz1] at h
    simpa [Value.cells] using h
  clear hi hz0 hz1 hz2
  go_enter Tryz.func58, Tryz.ntmps58
  go_wp2_with (go_at_call 94; (first | with_reducible refine (C1.out _).mono ?_ | with_reducible refine (C2.out _).mono ?_); rintro e w' ⟨rfl, rfl⟩)
  go_ret
  have hb1 := Lw.below_alloc (Below.refl w'.heap.size w') (.cells (madeCells #[.int .i64 0] q) 2)
  have hb2 := hb1.alloc hb1.size (.cells #[.int .i64 m, .int .i64 n, .slice (some ⟨w'.heap.size, 0, none⟩) q q] 157)
  have hm := mid_made w' q 2
  refine ⟨⟨w'.heap.size + 1, 0, none⟩, fun k => k = w'.heap.size + 1 ∨ k = w'.heap.size, rfl, ⟨HD.out, w'.heap.size + 1, w'.heap.size, q, rfl, ?_, ?_, by rw [HQ.out]; exact Nat.le_refl _, by unfold maxLen; omega, by omega, rfl⟩, fun k hk => by omega, hb2⟩
  · have h := heap_alloc_new (w'.alloc (.cells (madeCells #[.int .i64 0] q) 2)) (.cells #[.int .i64 m, .int .i64 n, .slice (some ⟨w'.heap.size, 0, none⟩) q q] 157)
    rw [World.size_alloc, HQ.out] at h
    rw [HQ.out]
    exact h
  · rw [HZ.out, ← HQ.out]
    exact hm.up (Lw.below_alloc (Below.refl _ _) _)
theorem grd_cell {w : World} {b : Nat} {vs : Array Value} {e : TypeId} (h : w.heap[b]? = some (.cells vs e (0, 0))) (i : Nat) {v : Value} (hv : vs[i]? = some v) : w.cell? ⟨b, i, none⟩ = some v := by simp [World.cell?, h, hv]
theorem grd_frozen {w : World} {b : Nat} {vs : Array Value} {e : TypeId} (h : w.heap[b]? = some (.cells vs e (0, 0))) (i : Nat) : w.frozen? ⟨b, i, none⟩ = false := by simp [World.frozen?, h]
theorem rows_eq (p : Addr) (F : Nat → Prop) (m n : Nat) (L : List (List Int)) (w : World) (h : PG w p F m n L) :
    Calls Tryz.prog 132 #[.pointer (some p)] w fun e w' => e = .returned (.int .i64 m) ∧ w' = w := by
  obtain ⟨hd, b, g, cap, rfl, hb, -⟩ := h
  have c0 := grd_cell hb 0 (v := .int .i64 m) rfl
  clear hd hb
  go_enter Tryz.func132, Tryz.ntmps132
  go_wp2
  go_ret
  exact ⟨rfl, rfl⟩
theorem width_eq (p : Addr) (F : Nat → Prop) (m n : Nat) (L : List (List Int)) (w : World) (h : PG w p F m n L) :
    Calls Tryz.prog 133 #[.pointer (some p)] w fun e w' => e = .returned (.int .i64 n) ∧ w' = w := by
  obtain ⟨hd, b, g, cap, rfl, hb, -⟩ := h
  have c0 := grd_cell hb 1 (v := .int .i64 n) rfl
  clear hd hb
  go_enter Tryz.func133, Tryz.ntmps133
  go_wp2
  go_ret
  exact ⟨rfl, rfl⟩
theorem rows_any (p : Addr) (F : Nat → Prop) (m n : Nat) (L : List (List Int)) (w : World) (h : PG w p F m n L) :
    Calls Tryz.prog 132 #[.pointer (some p)] w fun e w' => e = .returned (.int .i64 m) ∧ Below w.heap.size w w' :=
  (rows_eq p F m n L w h).mono fun e w' h => ⟨h.1, h.2 ▸ Below.refl _ _⟩
theorem width_any (p : Addr) (F : Nat → Prop) (m n : Nat) (L : List (List Int)) (w : World) (h : PG w p F m n L) :
    Calls Tryz.prog 133 #[.pointer (some p)] w fun e w' => e = .returned (.int .i64 n) ∧ Below w.heap.size w w' :=
  (width_eq p F m n L w h).mono fun e w' h => ⟨h.1, h.2 ▸ Below.refl _ _⟩
/-! ### The cells one behind the other -/
theorem flat_get {n : Nat} : ∀ {L : List (List Int)} (k j : Nat), (∀ r ∈ L, r.length = n) → k < L.length → j < n → L.flatten[k * n + j]? = (L[k]?.getD [])[j]?
  | [], k, j, _, hk, _ => by simp at hk
  | r :: L, 0, j, hr, _, hj => by
    have h := hr r (by simp)
    rw [List.flatten_cons, Nat.zero_mul, Nat.zero_add, List.getElem?_append_left (by omega)]
    rfl
  | r :: L, k + 1, j, hr, hk, hj => by
    have h := hr r (by simp)
    have ih := flat_get (L := L) k j (fun q hq => hr q (by simp [hq])) (by simpa using hk) hj
    have e : (k + 1) * n + j - r.length = k * n + j := by rw [Nat.succ_mul]; omega
    rw [List.flatten_cons, List.getElem?_append_right (by rw [Nat.succ_mul]; omega), e, ih]
    rfl
theorem flat_set {n : Nat} (x : Int) : ∀ {L : List (List Int)} (k j : Nat), (∀ r ∈ L, r.length = n) → j < n → (L.modify k (fun r => r.set j x)).flatten = L.flatten.set (k * n + j) x ∨ L.length ≤ k
  | [], k, j, _, _ => .inr (Nat.zero_le _)
  | r :: L, 0, j, hr, hj => by
    left
    have h := hr r (by simp)
    simp only [List.modify_zero_cons, List.flatten_cons, Nat.zero_mul, Nat.zero_add]
    rw [List.set_append_left _ _ (by omega)]
  | r :: L, k + 1, j, hr, hj => by
    have h := hr r (by simp)
    rcases flat_set x (L := L) k j (fun q hq => hr q (by simp [hq])) hj with ih | ih
    · left
      have e : (k + 1) * n + j - r.length = k * n + j := by rw [Nat.succ_mul]; omega
      simp only [List.modify_succ_cons, List.flatten_cons]
      rw [ih, List.set_append_right _ _ (by rw [Nat.succ_mul]; omega), e]
    · right; simp; omega
theorem flat_at {m n : Nat} {L : List (List Int)} (h : Dims m n L) {row col : Int} (r0 : 0 ≤ row) (r1 : row < m) (c0 : 0 ≤ col) (c1 : col < n) : L.flatten[row.toNat * n + col.toNat]? = some (at2 L row col) := by
  have hk : row.toNat < L.length := by rw [h.len]; omega
  have hl : (L[row.toNat]?.getD []).length = n := by
    rw [List.getElem?_eq_getElem hk]
    exact (h.rows _ (List.getElem_mem hk)).1
  rw [flat_get _ _ (fun r hr => (h.rows r hr).1) hk (by omega)]
  unfold at2
  rw [if_neg (by omega), List.getElem?_eq_getElem (by omega)]
  rfl
theorem flat_put {m n : Nat} {L : List (List Int)} (h : Dims m n L) {row col : Int} (x : Int) (r0 : 0 ≤ row) (r1 : row < m) (c0 : 0 ≤ col) (c1 : col < n) : (setL L row col x).flatten = L.flatten.set (row.toNat * n + col.toNat) x := by
  have hin : in2 L row col = true := by rw [in2_dims h]; exact decide_eq_true ⟨r0, r1, c0, c1⟩
  unfold setL
  rw [if_pos hin]
  rcases flat_set x row.toNat col.toNat (fun r hr => (h.rows r hr).1) (by omega) with e | e
  · exact e
  · rw [h.len] at e; omega
theorem place_bd {m n : Nat} {row col : Int} (m8 : m ≤ 8) (n128 : n ≤ 128) (r0 : 0 ≤ row) (r1 : row < m) (c0 : 0 ≤ col) (c1 : col < n) : 0 ≤ row * n ∧ row * n ≤ 1024 ∧ row * n + col < (m * n : Nat) ∧ row * n + col = ((row.toNat * n + col.toNat : Nat) : Int) := by
  obtain ⟨r, rfl⟩ : ∃ r : Nat, row = r := ⟨row.toNat, by omega⟩
  have h1 : (r + 1) * n ≤ m * n := Nat.mul_le_mul_right _ (by omega)
  have h2 : m * n ≤ 8 * 128 := Nat.mul_le_mul m8 n128
  rw [Nat.succ_mul] at h1
  have e : (r : Int) * n = ((r * n : Nat) : Int) := by simp
  simp only [e, Int.toNat_natCast]
  omega
/-- Where a cell stands. -/
def plc (n : Nat) (row col : Int) (b : Bool) : Int := if b = true then row * n + col else 0
theorem place_any (p : Addr) (F : Nat → Prop) (m n : Nat) (L : List (List Int)) (row col : Int) (w : World) (h : PG w p F m n L)
    (r0 : -9223372036854775808 ≤ row) (r1 : row ≤ 9223372036854775807) (c0 : -9223372036854775808 ≤ col) (c1 : col ≤ 9223372036854775807) :
    Calls Tryz.prog 138 #[.pointer (some p), .int .i64 row, .int .i64 col] w fun e w' => e = .returned (.tuple #[.int .i64 (plc n row col (in2 L row col)), .bool (in2 L row col)]) ∧ w' = w := by
  have e := in2_dims h.1 row col
  have m8 := h.1.m8
  have n128 := h.1.n128
  obtain ⟨hd, b, g, cap, rfl, hb, -⟩ := h
  have k0 := grd_cell hb 0 (v := .int .i64 m) rfl
  have k1 := grd_cell hb 1 (v := .int .i64 n) rfl
  clear hd hb
  by_cases h1 : row < 0
  · have e2 : in2 L row col = false := by rw [e]; exact decide_eq_false (by omega)
    rw [e2]
    clear e e2
    go_enter Tryz.func138, Tryz.ntmps138
    go_wp2
    go_ret2
    exact ⟨rfl, rfl⟩
  by_cases h2 : (m : Int) ≤ row
  · have e2 : in2 L row col = false := by rw [e]; exact decide_eq_false (by omega)
    rw [e2]
    clear e e2
    go_enter Tryz.func138, Tryz.ntmps138
    go_wp2
    go_ret2
    exact ⟨rfl, rfl⟩
  by_cases h3 : col < 0
  · have e2 : in2 L row col = false := by rw [e]; exact decide_eq_false (by omega)
    rw [e2]
    clear e e2
    go_enter Tryz.func138, Tryz.ntmps138
    go_wp2
    go_ret2
    exact ⟨rfl, rfl⟩
  by_cases h4 : (n : Int) ≤ col
  · have e2 : in2 L row col = false := by rw [e]; exact decide_eq_false (by omega)
    rw [e2]
    clear e e2
    go_enter Tryz.func138, Tryz.ntmps138
    go_wp2
    go_ret2
    exact ⟨rfl, rfl⟩
  have e2 : in2 L row col = true := by rw [e]; exact decide_eq_true (by omega)
  rw [e2]
  obtain ⟨p0, p1, p2, p3⟩ := place_bd (row := row) (col := col) m8 n128 (by omega) (by omega) (by omega) (by omega)
  clear e e2 p2 p3
  go_enter Tryz.func138, Tryz.ntmps138
  go_wp2
  go_ret2
  exact ⟨rfl, rfl⟩
theorem at_no {L : List (List Int)} {m n : Nat} (h : Dims m n L) {row col : Int} (hi : in2 L row col = false) : at2 L row col = 0 := by
  apply at2_out
  rw [in2_dims h] at hi
  have hi := of_decide_eq_false hi
  rw [h.len]
  by_cases h1 : 0 ≤ row ∧ row < m
  · have h2 : row.toNat < L.length := by rw [h.len]; omega
    have e : (L[row.toNat]?.getD []).length = n := by
      rw [List.getElem?_eq_getElem h2]
      exact (h.rows _ (List.getElem_mem h2)).1
    rw [e]
    omega
  · omega
theorem at_any (p : Addr) (F : Nat → Prop) (m n : Nat) (L : List (List Int)) (row col : Int) (w : World) (h : PG w p F m n L)
    (r0 : -9223372036854775808 ≤ row) (r1 : row ≤ 9223372036854775807) (c0 : -9223372036854775808 ≤ col) (c1 : col ≤ 9223372036854775807) :
    Calls Tryz.prog 135 #[.pointer (some p), .int .i64 row, .int .i64 col] w fun e w' => e = .returned (.int .i64 (at2 L row col)) ∧ Below w.heap.size w w' := by
  have C := Lib.hid (place_any p F m n L row col w h r0 r1 c0 c1)
  have hd := h.1
  obtain ⟨-, b, g, cap, rfl, hb, hm, hc, hx, -⟩ := h
  have k2 := grd_cell hb 2 (v := .slice (some ⟨g, 0, none⟩) (m * n) cap) rfl
  have hmn : m * n ≤ 1024 := Nat.mul_le_mul hd.m8 hd.n128
  obtain ⟨q, hq⟩ : ∃ q, q = m * n := ⟨_, rfl⟩
  rw [← hq] at k2 hmn hc
  cases hi : in2 L row col with
  | false =>
    have e := at_no hd hi
    rw [hi] at C
    rw [e]
    clear hd hm hb hi e hq
    go_enter Tryz.func135, Tryz.ntmps135
    go_wp2_with (go_at_call 138; ((with_reducible refine C.out.mono ?_)); rintro e w' ⟨rfl, rfl⟩)
    go_ret
    exact ⟨rfl, Below.refl _ _⟩
  | true =>
    have hi2 := hi
    rw [in2_dims hd] at hi2
    obtain ⟨g0, g1, g2, g3⟩ := of_decide_eq_true hi2
    obtain ⟨p0, p1, p2, p3⟩ := place_bd hd.m8 hd.n128 g0 g1 g2 g3
    have hv := flat_at hd g0 g1 g2 g3
    obtain ⟨ad, had⟩ : ∃ ad : Addr, (⟨g, 0, none⟩ : Addr) = ad := ⟨_, rfl⟩
    have hcell := hm.rd.at hv
    obtain ⟨k, hk⟩ : ∃ k, k = row.toNat * n + col.toNat := ⟨_, rfl⟩
    rw [← hk] at hcell p3
    have hkq : k < q := by omega
    have e1 : plc n row col true = k := p3
    rw [hi, e1] at C
    rw [had] at k2 hcell
    clear hd hm hb hi hi2 e1 p0 p1 p2 p3 hv had hk hq
    go_enter Tryz.func135, Tryz.ntmps135
    go_wp2_with (go_at_call 138; ((with_reducible refine C.out.mono ?_)); rintro e w' ⟨rfl, rfl⟩)
    go_ret
    exact ⟨rfl, Below.refl _ _⟩
theorem put_any (p : Addr) (F : Nat → Prop) (m n : Nat) (L : List (List Int)) (row col x : Int) (w : World) (h : PG w p F m n L)
    (r0 : -9223372036854775808 ≤ row) (r1 : row ≤ 9223372036854775807) (c0 : -9223372036854775808 ≤ col) (c1 : col ≤ 9223372036854775807) (x0 : -9223372036854775808 ≤ x) (x1 : x ≤ 9223372036854775807) :
    Calls Tryz.prog 123 #[.pointer (some p), .int .i64 row, .int .i64 col, .int .i64 x] w fun e w' => e = .returned (.bool (in2 L row col)) ∧ ∃ F', PG w' p F' m n (setL L row col x) ∧ Kept F w w' ∧ (∀ k, F' k → F k ∨ w.heap.size ≤ k) := by
  have C := Lib.hid (place_any p F m n L row col w h r0 r1 c0 c1)
  have HP := Lib.hid h
  have hd := h.1
  obtain ⟨-, b, g, cap, rfl, hb, hm, hc, hx, hbg, rfl⟩ := h
  have k2 := grd_cell hb 2 (v := .slice (some ⟨g, 0, none⟩) (m * n) cap) rfl
  have hmn : m * n ≤ 1024 := Nat.mul_le_mul hd.m8 hd.n128
  obtain ⟨q, hq⟩ : ∃ q, q = m * n := ⟨_, rfl⟩
  rw [← hq] at k2 hmn hc
  cases hi : in2 L row col with
  | false =>
    have e : setL L row col x = L := by unfold setL; rw [hi]; rfl
    rw [hi] at C
    rw [e]
    clear hd hm hb hi e hq
    go_enter Tryz.func123, Tryz.ntmps123
    go_wp2_with (go_at_call 138; ((with_reducible refine C.out.mono ?_)); rintro e w' ⟨rfl, rfl⟩)
    go_ret
    exact ⟨rfl, _, HP.out, Kept.refl _ _, fun k hk => .inl hk⟩
  | true =>
    have hi2 := hi
    rw [in2_dims hd] at hi2
    obtain ⟨g0, g1, g2, g3⟩ := of_decide_eq_true hi2
    obtain ⟨p0, p1, p2, p3⟩ := place_bd hd.m8 hd.n128 g0 g1 g2 g3
    have hv := flat_at hd g0 g1 g2 g3
    have hs := flat_put hd x g0 g1 g2 g3
    obtain ⟨ad, had⟩ : ∃ ad : Addr, (⟨g, 0, none⟩ : Addr) = ad := ⟨_, rfl⟩
    have hcell := hm.rd.at hv
    obtain ⟨k, hk⟩ : ∃ k, k = row.toNat * n + col.toNat := ⟨_, rfl⟩
    rw [← hk] at hcell p3 hs
    have hset := hm.set k x
    have hfz := hm.frozen (0 + k)
    have hkept : Kept (fun q => q = b ∨ q = g) w (w.setCell ⟨g, 0 + k, none⟩ (.int .i64 x)) := (Kept.refl _ w).set (.inl (.inr rfl)) _ _
    have hb2 : (w.setCell ⟨g, 0 + k, none⟩ (.int .i64 x)).heap[b]? = some (.cells #[.int .i64 m, .int .i64 n, .slice (some ⟨g, 0, none⟩) (m * n) cap] 157 (0, 0)) := ((Kept.refl (fun q => q = g) w).set (.inl rfl) _ _).heap hb hbg
    have HE : Hid (PG (w.setCell ⟨g, 0 + k, none⟩ (.int .i64 x)) ⟨b, 0, none⟩ (fun q => q = b ∨ q = g) m n (setL L row col x)) := Lib.hid ⟨hd.set row col x0 x1, b, g, cap, rfl, hb2, by rw [hs]; exact hset, by rw [← hq]; exact hc, hx, hbg, rfl⟩
    have HK := Lib.hid hkept
    have hkq : k < q := by omega
    have e1 : plc n row col true = k := p3
    rw [hi, e1] at C
    rw [← Ord.add_at, had] at hfz HE HK
    rw [had] at k2 hcell
    clear hd hm hb hi hi2 e1 p0 p1 p2 p3 hv had hk hq hset hkept hs hb2
    go_enter Tryz.func123, Tryz.ntmps123
    go_wp2_with (go_at_call 138; ((with_reducible refine C.out.mono ?_)); rintro e w' ⟨rfl, rfl⟩)
    go_ret
    exact ⟨rfl, _, HE.out, HK.out, fun k hk => .inl hk⟩
/-- The cells, a copy. -/
theorem cells_mid (p : Addr) (F : Nat → Prop) (m n : Nat) (L : List (List Int)) (w : World) (h : PG w p F m n L) :
    Calls Tryz.prog 109 #[.pointer (some p)] w fun e w' => ∃ (g cap : Nat), e = .returned (.slice (some ⟨g, 0, none⟩) (m * n) cap) ∧ Ord.Mid w' g 0 L.flatten ∧ w.heap.size ≤ g ∧ m * n ≤ cap ∧ cap ≤ maxLen ∧ Below w.heap.size w w' := by
  have hd := h.1
  obtain ⟨-, b, g, cap, rfl, hb, hm, hc, hx, -⟩ := h
  have k2 := grd_cell hb 2 (v := .slice (some ⟨g, 0, none⟩) (m * n) cap) rfl
  have hmn : m * n ≤ 1024 := Nat.mul_le_mul hd.m8 hd.n128
  have hfl := flat_dims hd
  obtain ⟨q, hq⟩ : ∃ q, q = m * n := ⟨_, rfl⟩
  rw [← hq] at k2 hmn hc hfl ⊢
  have C := Lib.hid (Slc.clone_some ⟨g, 0, none⟩ q cap L.flatten w hc hx hm.rd hfl (by omega))
  clear hd hm hb hq hfl
  go_enter Tryz.func109, Tryz.ntmps109
  go_wp2_with (go_at_call 125; ((with_reducible refine C.out.mono ?_)); rintro e w' ⟨g2, cap2, rfl, hm2, hg2, h1, h2, hb2⟩)
  go_ret
  exact ⟨g2, cap2, rfl, hm2, hg2, h1, h2, hb2⟩
theorem mid_row {w : World} {g : Nat} {Z : List Int} (h : Ord.Mid w g 0 Z) : Row1 w (some ⟨g, 0, none⟩) Z := ⟨(fun h => by cases h), fun a ha => by injection ha with ha; exact ⟨g, 0, ha.symm, h⟩⟩
theorem cells_any (p : Addr) (F : Nat → Prop) (m n : Nat) (L : List (List Int)) (w : World) (h : PG w p F m n L) :
    Calls Tryz.prog 109 #[.pointer (some p)] w fun e w' => ∃ (A : Option Addr) (cap : Nat), e = .returned (.slice A (m * n) cap) ∧ Row1 w' A L.flatten ∧ m * n ≤ cap ∧ cap ≤ maxLen ∧ (∀ a, A = some a → w.heap.size ≤ a.block) ∧ Below w.heap.size w w' :=
  (cells_mid p F m n L w h).mono fun e w' ⟨g, cap, e1, hm, hg, h1, h2, hb⟩ => ⟨some ⟨g, 0, none⟩, cap, e1, mid_row hm, h1, h2, fun a ha => by injection ha with ha; subst ha; exact hg, hb⟩
theorem pg_drewN {w : World} {p : Addr} {F : Nat → Prop} {m n : Nat} {L : List (List Int)} (h : PG w p F m n L) (d : Nat) : PG (w.drewN d) p F m n L :=
  (pgT p F m n L).keep w _ (fun _ => False) h (Kept.of_below (below_drewN (Below.refl _ _) d)) (fun _ _ h => h)
theorem pg_drew {w : World} {p : Addr} {F : Nat → Prop} {m n : Nat} {L : List (List Int)} (h : PG w p F m n L) : PG w.drew p F m n L :=
  (pgT p F m n L).keep w _ (fun _ => False) h (Kept.of_below (Below.drew (Below.refl _ _))) (fun _ _ h => h)
set_option maxRecDepth 100000 in
theorem copy_any (p : Addr) (F : Nat → Prop) (m n : Nat) (L : List (List Int)) (w : World) (h : PG w p F m n L) :
    Calls Tryz.prog 78 #[.pointer (some p)] w fun e w' => ∃ (p' : Addr) (F' : Nat → Prop), e = .returned (.pointer (some p')) ∧ PG w' p' F' m n L ∧ (∀ k, F' k → w.heap.size ≤ k) ∧ Below w.heap.size w w' := by
  have HP := Lib.hid h
  have hd := h.1
  obtain ⟨-, b, g, cap, rfl, hb, hm, hc, hx, -⟩ := h
  have k0 := grd_cell hb 0 (v := .int .i64 m) rfl
  have k1 := grd_cell hb 1 (v := .int .i64 n) rfl
  have hbl := size_of_heap hb
  have HD := Lib.hid hd
  clear hd hm hb
  go_enter Tryz.func78, Tryz.ntmps78
  go_wp2
  go_region_held3 (fun w' => w'.cell? ⟨b, 0, none⟩ = some (.int .i64 m) ∧ w'.cell? ⟨b, 1, none⟩ = some (.int .i64 n)) (first | (refine ⟨cell_up k0 ?_, cell_up k1 ?_⟩ <;> (repeat' (first | (with_reducible exact Below.refl _ _) | (with_reducible assumption) | (with_reducible refine below_over ?_ _ _) | (with_reducible refine Lw.below_alloc ?_ _) | (with_reducible refine Below.drew ?_) | (with_reducible refine below_drewN ?_ _) | (with_reducible refine Below.setCell ?_ ?_ _) | go_size)))) (first
    | (go_at_call 109; ((with_reducible refine (cells_mid _ _ m n L _ (pg_drew HP.out)).mono ?_)); rintro e w2 ⟨g2, cap2, rfl, hm2, hg2, h1, h2, hb2⟩; obtain ⟨bs, d, rfl⟩ := below_grow hb2; have HM2 := Lib.hid hm2; clear hm2 hb2))
  go_wp2
  go_ret
  have hg3 : g2 < (grow w bs d).heap.size := HM2.out.lt
  rw [size_grow] at hg3
  have hg4 : w.heap.size ≤ g2 := hg2
  have hn := heap_alloc_new (grow w bs d) (.cells #[.int .i64 m, .int .i64 n, .slice (some ⟨g2, 0, none⟩) (m * n) cap2] 157)
  rw [size_grow] at hn
  refine ⟨⟨w.heap.size + bs.size, 0, none⟩, fun k => k = w.heap.size + bs.size ∨ k = g2, rfl, ⟨HD.out, _, g2, cap2, rfl, hn, HM2.out.up (Lw.below_alloc (Below.refl _ _) _), h1, h2, by omega, rfl⟩, fun k hk => by omega, (grow_below w bs d).alloc (by rw [size_grow]; omega) _⟩
theorem pg_alloc {w : World} {p : Addr} {F : Nat → Prop} {m n : Nat} {L : List (List Int)} (h : PG w p F m n L) (o : Obj) : PG (w.alloc o) p F m n L :=
  (pgT p F m n L).keep w _ (fun _ => False) h (Kept.of_below (Lw.below_alloc (Below.refl _ _) o)) (fun _ _ h => h)
theorem pg_up {w w' : World} {p : Addr} {F : Nat → Prop} {m n : Nat} {L : List (List Int)} (h : PG w p F m n L) (hb : Below w.heap.size w w') : PG w' p F m n L :=
  (pgT p F m n L).keep w _ (fun _ => False) h (Kept.of_below hb) (fun _ _ h => h)
end Go.Proofs.YtkannodfamnmcaaGreat.Grd
/- The walk of the document's own answer Join for layer 6. Printed by wip/gen/grdjoin.py. -/
namespace Go.Proofs.YtkannodfamnmcaaGreat.Grd
open Go Go.RowKit Lw
set_option linter.unusedVariables false
theorem own_slice {w : World} {B : Nat} {e : TypeId} {size : Nat} {v : Value} {n : Nat} {xs : List Value} (h : w.ownsRow B e size v n xs) : ∃ A c, v = .slice A n c := by
  rcases h.2 with ⟨h1, h2⟩ | ⟨g, cap, cur, h1, _⟩
  · exact ⟨none, 0, by rw [h1, h2]⟩
  · exact ⟨_, _, h1⟩
/-- Rows of one's own, behind a slice of headers. -/
structure RO (w : World) (B : Nat) (hdr : Value) (R : List Row) : Prop where
  outer : w.ownsRow B 45 1 hdr R.length (R.map rowHd)
  rows : ∀ r ∈ R, w.ownsRow B 2 1 (rowHd r) r.2.2.length (r.2.2.map (Value.int .i64))
  apart : ∀ r ∈ R, hdr.ownBlock ≠ some r.1
  nd : (R.map (·.1)).Nodup
theorem RO.push {w w4 : World} {B : Nat} {hdr hdr' : Value} {R : List Row} {g c : Nat} {zs : List Int} (h : RO w B hdr R) (hk : Kept (fun q => hdr.ownBlock = some q) w w4)
    (ho : w4.ownsRow B 45 1 hdr' (R.length + 1) (R.map rowHd ++ [rowHd (g, c, zs)]))
    (hr : w4.ownsRow B 2 1 (rowHd (g, c, zs)) zs.length (zs.map (Value.int .i64))) (hg : w.heap.size ≤ g)
    (hh : hdr'.ownBlock = hdr.ownBlock ∨ ∃ q, hdr'.ownBlock = some q ∧ w.heap.size ≤ q ∧ q ≠ g) : RO w4 B hdr' (R ++ [(g, c, zs)]) := by
  have hold : ∀ q, hdr.ownBlock = some q → q < w.heap.size := fun q hq => own_lt h.outer hq
  have hrow : ∀ r ∈ R, r.1 < w.heap.size := fun r hr => own_lt (h.rows r hr) rfl
  refine ⟨by simpa using ho, ?_, ?_, ?_⟩
  · intro r hrm
    rcases List.mem_append.1 hrm with h1 | h1
    · exact hk.own (h.rows r h1) (fun q hq e => by
        simp [rowHd, Value.ownBlock] at hq
        exact h.apart r h1 (by rw [hq, e]))
    · simp at h1
      subst h1
      exact hr
  · intro r hrm
    rcases List.mem_append.1 hrm with h1 | h1
    · rcases hh with h2 | ⟨q, h2, h3, h4⟩
      · rw [h2]; exact h.apart r h1
      · rw [h2]; intro e; injection e with e; have := hrow r h1; omega
    · simp at h1
      subst h1
      rcases hh with h2 | ⟨q, h2, h3, h4⟩
      · rw [h2]; intro e; have := hold _ e; simp only at this; omega
      · rw [h2]; intro e; injection e with e; exact h4 e
  · rw [List.map_append, List.nodup_append]
    refine ⟨h.nd, by simp, ?_⟩
    intro x hx y hy e
    simp at hy
    subst hy
    subst e
    obtain ⟨r, hr, e⟩ := List.mem_map.1 hx
    have := hrow r hr
    omega
theorem RO.keep {F : Nat → Prop} {w w' : World} {B : Nat} {hdr : Value} {R : List Row} (h : RO w B hdr R) (k : Kept F w w') (hf : ∀ q, B ≤ q → ¬ F q) : RO w' B hdr R where
  outer := k.own h.outer (fun q hq => hf q (own_ge h.outer q hq))
  rows := fun r hr => k.own (h.rows r hr) (fun q hq => hf q (own_ge (h.rows r hr) q hq))
  apart := h.apart
  nd := h.nd
/-- Laid into a grid's block that lies below. -/
theorem RO.laid {w : World} {B b : Nat} {hdr old : Value} {R : List Row} (h : RO w B hdr R) (hb : b < B) (hc : w.heap[b]? = some (.cells #[old] 104 (0, 0))) : RG (w.setCell ⟨b, 0, none⟩ hdr) b hdr R := by
  have hk : Kept (fun q => q = b) w (w.setCell ⟨b, 0, none⟩ hdr) := Kept.set (F := fun q => q = b) (Kept.refl _ w) (.inl rfl) 0 _
  have h2 := h.keep hk (fun q hq e => by omega)
  refine ⟨?_, own_mono h2.outer (Nat.zero_le _), fun r hr => own_mono (h2.rows r hr) (Nat.zero_le _), ?_, fun r hr => ⟨?_, h2.apart r hr⟩, h2.nd⟩
  · have := heap_setCell_same w b 0 _ _ hdr hc
    simpa using this
  · intro e; have := own_ge h2.outer b e; omega
  · have := own_ge (h2.rows r hr) r.1 rfl; omega
theorem rowS_next (s : Int) (xs ys : List Int) (j : Nat) (x y : Int) (hx : xs[j]? = some x) (hy : ys[j]? = some y) : rowS s (xs.take (j + 1)) (ys.take (j + 1)) = rowS s (xs.take j) (ys.take j) ++ [x + s * y] := by
  unfold rowS
  rw [List.take_add_one, List.take_add_one, hx, hy]
  have h1 := (List.getElem?_eq_some_iff.1 hx).1
  have h2 := (List.getElem?_eq_some_iff.1 hy).1
  rw [List.zipWith_append (by simp; omega)]
  rfl
theorem gridS_next (s : Int) (L M : List (List Int)) (k : Nat) (x y : List Int) (hx : L[k]? = some x) (hy : M[k]? = some y) : gridS s (L.take (k + 1)) (M.take (k + 1)) = gridS s (L.take k) (M.take k) ++ [rowS s x y] := by
  unfold gridS
  rw [List.take_add_one, List.take_add_one, hx, hy]
  have h1 := (List.getElem?_eq_some_iff.1 hx).1
  have h2 := (List.getElem?_eq_some_iff.1 hy).1
  rw [List.zipWith_append (by simp; omega)]
  rfl
theorem not_fits {s : Int} {L M : List (List Int)} {k j : Nat} {xs ys : List Int} {x y : Int} (hL : L[k]? = some xs) (hM : M[k]? = some ys) (hx : xs[j]? = some x) (hy : ys[j]? = some y) (hf : Wid.fit64 (x + s * y) = false) : fitsAll (gridS s L M) = false := by
  unfold fitsAll
  rw [List.all_eq_false]
  refine ⟨rowS s xs ys, ?_, ?_⟩
  · refine List.mem_of_getElem? (i := k) ?_
    unfold gridS
    rw [List.getElem?_zipWith, hL, hM]
  · rw [Bool.not_eq_true, List.all_eq_false]
    refine ⟨x + s * y, ?_, by simp [hf]⟩
    refine List.mem_of_getElem? (i := j) ?_
    unfold rowS
    rw [List.getElem?_zipWith, hx, hy]
set_option maxRecDepth 100000 in
set_option maxHeartbeats 4000000 in
theorem rjoin_any (b b2 : Nat) (hdr hdr2 : Value) (R S : List Row) (s : Int) (w : World) (h : RG w b hdr R) (h2 : RG w b2 hdr2 S) (hs : s = 1 ∨ s = -1) (hlen : R.length = S.length) (hlens : ∀ (i : Nat) (r q : Row), R[i]? = some r → S[i]? = some q → r.2.2.length = q.2.2.length)
    (hn : R.length ≤ 8) (hm : ∀ r ∈ R, r.2.2.length ≤ 128) (hz : ∀ r ∈ R, In64 r.2.2) (hz2 : ∀ r ∈ S, In64 r.2.2) (J : List (List Int)) (hJ : gridS s (nums R) (nums S) = J) :
    Calls Tryz.prog 74 #[.pointer (some ⟨b, 0, none⟩), .pointer (some ⟨b2, 0, none⟩), .int .i64 s] w fun e w' =>
      (fitsAll J = true ∧ e = .returned (.int .i64 0) ∧ ∃ (hdr' : Value) (R' : List Row), RG w' b hdr' R' ∧ nums R' = J ∧ (∀ q, RF b hdr' R' q → q = b ∨ w.heap.size ≤ q) ∧ Kept (fun q => q = b) w w') ∨
      (fitsAll J = false ∧ e = .returned (.int .i64 4) ∧ Below w.heap.size w w') := by
  obtain ⟨i0, hi, hi0, hi1, hi2⟩ := info_parts i64_info
  obtain ⟨j0, hj, hj0, hj1, hj2⟩ := info_parts rows_info
  have HG := Lib.hid h
  have HH := Lib.hid h2
  have HZ := Lib.hid hz
  have HZ2 := Lib.hid hz2
  have HL := Lib.hid hlens
  have HM := Lib.hid hm
  have HLEN := Lib.hid hlen
  have HJ := Lib.hid hJ
  obtain ⟨A, cap, rfl, hcap, hA, hcell⟩ := h.hd
  obtain ⟨A2, cap2, rfl, hcap2, hA2, hcell2⟩ := h2.hd
  have hb := cell_of_row w b 0 _ _ _ h.cell
  have hb2 := cell_of_row w b2 0 _ _ _ h2.cell
  simp only [List.getElem?_toArray, List.getElem?_cons_zero] at hb hb2
  have hblt := h.blt (.inl rfl)
  have HC := Lib.hid hcell
  have HC2 := Lib.hid hcell2
  clear h h2 hz hz2 hlens hm hcell hcell2 hA hA2 hlen hJ
  go_enter Tryz.func74, Tryz.ntmps74
  go_wp2
  go_loopw [7, 8] (fun v i wr => ∃ (k : Nat) (Q : List Row), k ≤ R.length ∧ Q.length = k ∧ i = .int .i64 k ∧ RO wr w.heap.size v Q ∧ nums Q = gridS s ((nums R).take k) ((nums S).take k) ∧ fitsAll (nums Q) = true ∧ Below w.heap.size w wr) (fun _ i _ => R.length - (intOf i).toNat)
  case atStart => exact ⟨0, [], Nat.zero_le _, rfl, rfl, ⟨World.ownsRow_nil _ _ _ _, (fun r h => by cases h), (fun r h => by cases h), by simp⟩, by simp [nums, gridS], rfl, Below.refl _ _⟩
  case round =>
    obtain ⟨k, Q, hk, hQ, rfl, hro, hnq, hfq, hbel⟩ := hrel
    have hbr := cell_up hb hbel
    have hbs := hbel.size
    by_cases hlt : k < R.length
    · obtain ⟨⟨g, gc, xs⟩, hr⟩ : ∃ r, R[k]? = some r := ⟨_, List.getElem?_eq_getElem hlt⟩
      obtain ⟨⟨g2, gc2, ys⟩, hr2⟩ : ∃ r, S[k]? = some r := ⟨_, List.getElem?_eq_getElem (by have := HLEN.out; omega)⟩
      obtain ⟨oad, rfl, hcr⟩ := HC.out k _ hr
      obtain ⟨oad2, rfl, hcr2⟩ := HC2.out k _ hr2
      have hrm := List.mem_of_getElem? hr
      have hrm2 := List.mem_of_getElem? hr2
      have hml := HM.out _ hrm
      have hxy : xs.length = ys.length := HL.out k _ _ hr hr2
      have hxz := HZ.out _ hrm
      have hyz := HZ2.out _ hrm2
      have hrd : Rd .i64 w (some ⟨g, 0, none⟩) xs := fun j v hv => ⟨_, rfl, HG.out.numAt hrm hv⟩
      have hrd2 : Rd .i64 w (some ⟨g2, 0, none⟩) ys := fun j v hv => ⟨_, rfl, HH.out.numAt hrm2 hv⟩
      unfold rowHd at hcr hcr2
      simp only at hcr hcr2 hml hxz hyz
      have hLk : (nums R)[k]? = some xs := by simp [nums, hr]
      have hMk : (nums S)[k]? = some ys := by simp [nums, hr2]
      have hkl2 : k < S.length := by have := HLEN.out; omega
      obtain ⟨gad, hgad⟩ : ∃ gad : Addr, (⟨g, 0, none⟩ : Addr) = gad := ⟨_, rfl⟩
      obtain ⟨gad2, hgad2⟩ : ∃ gad : Addr, (⟨g2, 0, none⟩ : Addr) = gad := ⟨_, rfl⟩
      rw [hgad] at hcr hrd
      rw [hgad2] at hcr2 hrd2
      have HXZ := Lib.hid hxz
      have HYZ := Lib.hid hyz
      have HLK := Lib.hid hLk
      have HMK := Lib.hid hMk
      have HRO := Lib.hid hro
      have HNQ := Lib.hid hnq
      have HFQ := Lib.hid hfq
      have HB := Lib.hid hbel
      have HQ := Lib.hid hQ
      have HXY := Lib.hid hxy
      have HRX := Lib.hid hrd
      have HRY := Lib.hid hrd2
      clear hxy hr hr2 hrm hrm2 hxz hyz hrd hrd2 hLk hMk hgad hgad2 hro hnq hfq hbel hQ
      go_wp2
      obtain ⟨wo, rfl⟩ : ∃ wo, wo = wr := ⟨_, rfl⟩
      go_loopw [9, 10] (fun v c wi => ∃ (j gr cp : Nat), j ≤ xs.length ∧ c = .int .i64 j ∧ v = .slice (some ⟨gr, 0, none⟩) j cp ∧ wi.ownsRow wo.heap.size 2 1 v j ((rowS s (xs.take j) (ys.take j)).map (Value.int .i64)) ∧ (rowS s (xs.take j) (ys.take j)).all Wid.fit64 = true ∧ wo.heap.size ≤ gr ∧ Below wo.heap.size wo wi) (fun _ c _ => xs.length - (intOf c).toNat)
      case atStart => exact ⟨0, wo.heap.size, 0, Nat.zero_le _, rfl, rfl, by simpa [rowS] using own_empty wo 2 1 _ (Nat.le_refl _), by simp [rowS], Nat.le_refl _, Lw.below_alloc (Below.refl _ _) _⟩
      case round =>
        obtain ⟨j, gr, cp, hjw, rfl, rfl, hown, hfit, hgr, hbi⟩ := hrel
        have hbw : Below w.heap.size w wr := below_call HB.out hbi (Nat.le_refl _)
        have hbr2 := cell_up hb hbw
        have hcr3 := cell_up hcr hbw
        by_cases hjl : j < xs.length
        · obtain ⟨x, hx⟩ : ∃ x, xs[j]? = some x := ⟨_, List.getElem?_eq_getElem hjl⟩
          obtain ⟨y, hy⟩ : ∃ y, ys[j]? = some y := ⟨_, List.getElem?_eq_getElem (by have := HXY.out; omega)⟩
          have hbb := cell_up hb2 hbw
          have hcc := cell_up hcr2 hbw
          have hcx := (HRX.out.up hbw).at hx
          have hcy := (HRY.out.up hbw).at hy
          have hxb := HXZ.out.at hx
          have hyb := HYZ.out.at hy
          have hjy : j < ys.length := by have := HXY.out; omega
          rcases hs with rfl | rfl
          · have hz : x + 1 * y = x + y := by omega
            have hs0 : ¬ (1 : Int) < 0 := by omega
            go_wp2_with (first
              | (go_at_call 70; (with_reducible refine (Wid.rofint_any y _ hyb.1 hyb.2).mono ?_); rintro e w' ⟨rfl, hbx⟩; obtain ⟨bs1, d1, rfl⟩ := below_grow hbx; clear hbx))
            generalize hX : (grow wr bs1 d1).alloc (.cells #[.int .i64 (Wid.dg y 0), .int .i64 (Wid.dg y 1), .int .i64 (Wid.dg y 2), .int .i64 (Wid.dg y 3), .int .i64 (Wid.dg y 4), .int .i64 (Wid.dg y 5), .int .i64 (Wid.dg y 6), .int .i64 (Wid.dg y 7), .int .i64 (Wid.dg y 8), .int .i64 (Wid.dg y 9)] 133) = X
            have hbX : Below wr.heap.size wr X := by rw [← hX]; (repeat' (first | (with_reducible exact Below.refl _ _) | (with_reducible assumption) | (with_reducible refine below_over ?_ _ _) | (with_reducible refine Lw.below_alloc ?_ _) | (with_reducible refine Below.drew ?_) | (with_reducible refine below_drewN ?_ _) | (with_reducible refine Below.setCell ?_ ?_ _) | go_size))
            have hR0 : ((grow wr bs1 d1).alloc (.cells #[.int .i64 (Wid.dg y 0), .int .i64 (Wid.dg y 1), .int .i64 (Wid.dg y 2), .int .i64 (Wid.dg y 3), .int .i64 (Wid.dg y 4), .int .i64 (Wid.dg y 5), .int .i64 (Wid.dg y 6), .int .i64 (Wid.dg y 7), .int .i64 (Wid.dg y 8), .int .i64 (Wid.dg y 9)] 133)).rangeAt (wr.heap.size + bs1.size) 0 [.int .i64 (Wid.dg y 0), .int .i64 (Wid.dg y 1), .int .i64 (Wid.dg y 2), .int .i64 (Wid.dg y 3), .int .i64 (Wid.dg y 4), .int .i64 (Wid.dg y 5), .int .i64 (Wid.dg y 6), .int .i64 (Wid.dg y 7), .int .i64 (Wid.dg y 8), .int .i64 (Wid.dg y 9)] := by
              have h := Wid.range_box (w := grow wr bs1 d1) (C := [.int .i64 (Wid.dg y 0), .int .i64 (Wid.dg y 1), .int .i64 (Wid.dg y 2), .int .i64 (Wid.dg y 3), .int .i64 (Wid.dg y 4), .int .i64 (Wid.dg y 5), .int .i64 (Wid.dg y 6), .int .i64 (Wid.dg y 7), .int .i64 (Wid.dg y 8), .int .i64 (Wid.dg y 9)]) (t := 133) (Below.refl _ _)
              rw [size_grow] at h
              exact h
            have hR : X.rangeAt (wr.heap.size + bs1.size) 0 [.int .i64 (Wid.dg y 0), .int .i64 (Wid.dg y 1), .int .i64 (Wid.dg y 2), .int .i64 (Wid.dg y 3), .int .i64 (Wid.dg y 4), .int .i64 (Wid.dg y 5), .int .i64 (Wid.dg y 6), .int .i64 (Wid.dg y 7), .int .i64 (Wid.dg y 8), .int .i64 (Wid.dg y 9)] := by rw [← hX]; exact hR0
            clear hX hR0
            have x1 := cell_up hbr2 hbX
            have x2 := cell_up hcr3 hbX
            have x3 := cell_up hcx hbX
            have hu57 := Wid.long_u
            have hi57 : (Tryz.prog.info? 133).map (·.size) = some ([.int .i64 (Wid.dg y 0), .int .i64 (Wid.dg y 1), .int .i64 (Wid.dg y 2), .int .i64 (Wid.dg y 3), .int .i64 (Wid.dg y 4), .int .i64 (Wid.dg y 5), .int .i64 (Wid.dg y 6), .int .i64 (Wid.dg y 7), .int .i64 (Wid.dg y 8), .int .i64 (Wid.dg y 9)] : List Value).length := Wid.long_i
            go_cut [12, 13] (fun s12 s13 wx => s12 = .int .i64 (Wid.f64 (x + y)) ∧ s13 = .bool (Wid.fit64 (x + y)) ∧ Below wr.heap.size wr wx)
            case first =>
              go_region_held3 (fun w' => w'.cell? ⟨b, 0, none⟩ = some (.slice (some oad) R.length cap) ∧ w'.cell? (oad.add k) = some (.slice (some gad) xs.length gc) ∧ w'.cell? (gad.add j) = some (.int .i64 x) ∧ w'.rangeAt (wr.heap.size + bs1.size) 0 [.int .i64 (Wid.dg y 0), .int .i64 (Wid.dg y 1), .int .i64 (Wid.dg y 2), .int .i64 (Wid.dg y 3), .int .i64 (Wid.dg y 4), .int .i64 (Wid.dg y 5), .int .i64 (Wid.dg y 6), .int .i64 (Wid.dg y 7), .int .i64 (Wid.dg y 8), .int .i64 (Wid.dg y 9)]) ((refine ⟨cell_up x1 ?_, cell_up x2 ?_, cell_up x3 ?_, Wid.range_call hR ?_⟩ <;> (repeat' (first | (with_reducible exact Below.refl _ _) | (with_reducible assumption) | (with_reducible refine below_over ?_ _ _) | (with_reducible refine Lw.below_alloc ?_ _) | (with_reducible refine Below.drew ?_) | (with_reducible refine below_drewN ?_ _) | (with_reducible refine Below.setCell ?_ ?_ _) | go_size)))) (first
                | (go_at_call 70; (with_reducible refine (Wid.rofint_any x _ hxb.1 hxb.2).mono ?_); rintro e w' ⟨rfl, hbx⟩; obtain ⟨bs3, d3, rfl⟩ := below_grow hbx; clear hbx)
                | (go_at_call 73; (with_reducible refine (Wid.rplus_any x y _ _ _ _ _ _ _ _ _ _ _ _ _ _ _ _ _ _ _ _ _ rfl rfl).mono ?_); rintro e w' ⟨rfl, hbx⟩; obtain ⟨bs4, d4, rfl⟩ := below_grow hbx; clear hbx)
                | (go_at_call 72; (with_reducible refine (Wid.rint_any (x + y) _ _ _ _ _ _ _ _ _ _ _ rfl (by omega) (by omega)).mono ?_); rintro e w' ⟨rfl, hbx⟩; obtain ⟨bs5, d5, rfl⟩ := below_grow hbx; clear hbx))
              all_goals go_wp2
              all_goals go_meet
              all_goals refine ⟨rfl, rfl, below_call hbX (w1 := _) ?_ (Nat.le_refl _)⟩
              all_goals (repeat' (first | (with_reducible exact Below.refl _ _) | (with_reducible assumption) | (with_reducible refine below_over ?_ _ _) | (with_reducible refine Lw.below_alloc ?_ _) | (with_reducible refine Below.drew ?_) | (with_reducible refine below_drewN ?_ _) | (with_reducible refine Below.setCell ?_ ?_ _) | go_size))
            case rest =>
              obtain ⟨rfl, rfl, hbc⟩ := hcut
              have hownc := (Kept.of_below (F := fun _ => False) hbc).own hown (fun _ _ h => h)
              have hbc2 := below_call hbi hbc (Nat.le_refl _)
              have hbw2 := below_call hbw hbc (Nat.le_refl _)
              have HNX := Lib.hid (rowS_next 1 xs ys j x y hx hy)
              have hbcs := hbc2.size
              cases hf : Wid.fit64 (x + y)
              · have HNF := Lib.hid (HJ.out ▸ not_fits HLK.out HMK.out hx hy (by rw [hz]; exact hf))
                clear hx hy
                go_wp2
                go_ret
                exact Or.inr ⟨HNF.out, rfl, hbw2⟩
              · have e64 : Wid.f64 (x + y) = x + y := by unfold Wid.f64; rw [if_pos hf]
                rw [e64]
                clear hx hy
                go_wp2_with (at_builtin; (refine app_one .i64 rfl _ _ 45 rfl wo.heap.size 2 i0 8 i64s_u hi hi0 hi1 hi2 (.slice (some ⟨gr, 0, none⟩) j cp) j (rowS 1 (xs.take j) (ys.take j)) rfl (hownc.alloc _) (x + y) wc.heap.size rfl (cell_one_new _ _ _) (by unfold maxLen; omega) (by omega) (by simp; omega) ?_); intro v1 w1 own1 grow1 oth1; obtain ⟨gg, cc, rfl, hgg, hgl⟩ := own1.form (by omega); have hb1 : Below wo.heap.size wo w1 := app_below3 (Lw.below_alloc hbc2 _) grow1 (fun q hq => own_ge hownc q hq))
                go_roundw
                case rel => exact ⟨j + 1, gg, cc, by omega, by go_num, rfl, by rw [HNX.out, hz]; exact own1, by rw [HNX.out, hz, List.all_append, hfit]; simp [hf], hgg, hb1⟩
                case measure => simp [intOf]; omega
          · have hz : x + (-1) * y = x + (-y) := by omega
            have hs0 : (-1 : Int) < 0 := by omega
            go_wp2_with (first
              | (go_at_call 70; (with_reducible refine (Wid.rofint_any y _ hyb.1 hyb.2).mono ?_); rintro e w' ⟨rfl, hbx⟩; obtain ⟨bs1, d1, rfl⟩ := below_grow hbx; clear hbx)
              | (go_at_call 71; (with_reducible refine (Wid.rminus_any y _ _ _ _ _ _ _ _ _ _ _ rfl).mono ?_); rintro e w' ⟨rfl, hbx⟩; obtain ⟨bs2, d2, rfl⟩ := below_grow hbx; clear hbx))
            generalize hX : grow ((grow wr bs1 d1).alloc (.cells #[.int .i64 (Wid.dg (-y) 0), .int .i64 (Wid.dg (-y) 1), .int .i64 (Wid.dg (-y) 2), .int .i64 (Wid.dg (-y) 3), .int .i64 (Wid.dg (-y) 4), .int .i64 (Wid.dg (-y) 5), .int .i64 (Wid.dg (-y) 6), .int .i64 (Wid.dg (-y) 7), .int .i64 (Wid.dg (-y) 8), .int .i64 (Wid.dg (-y) 9)] 133)) bs2 d2 = X
            have hbX : Below wr.heap.size wr X := by rw [← hX]; (repeat' (first | (with_reducible exact Below.refl _ _) | (with_reducible assumption) | (with_reducible refine below_over ?_ _ _) | (with_reducible refine Lw.below_alloc ?_ _) | (with_reducible refine Below.drew ?_) | (with_reducible refine below_drewN ?_ _) | (with_reducible refine Below.setCell ?_ ?_ _) | go_size))
            have hR0 : ((grow wr bs1 d1).alloc (.cells #[.int .i64 (Wid.dg (-y) 0), .int .i64 (Wid.dg (-y) 1), .int .i64 (Wid.dg (-y) 2), .int .i64 (Wid.dg (-y) 3), .int .i64 (Wid.dg (-y) 4), .int .i64 (Wid.dg (-y) 5), .int .i64 (Wid.dg (-y) 6), .int .i64 (Wid.dg (-y) 7), .int .i64 (Wid.dg (-y) 8), .int .i64 (Wid.dg (-y) 9)] 133)).rangeAt (wr.heap.size + bs1.size) 0 [.int .i64 (Wid.dg (-y) 0), .int .i64 (Wid.dg (-y) 1), .int .i64 (Wid.dg (-y) 2), .int .i64 (Wid.dg (-y) 3), .int .i64 (Wid.dg (-y) 4), .int .i64 (Wid.dg (-y) 5), .int .i64 (Wid.dg (-y) 6), .int .i64 (Wid.dg (-y) 7), .int .i64 (Wid.dg (-y) 8), .int .i64 (Wid.dg (-y) 9)] := by
              have h := Wid.range_box (w := grow wr bs1 d1) (C := [.int .i64 (Wid.dg (-y) 0), .int .i64 (Wid.dg (-y) 1), .int .i64 (Wid.dg (-y) 2), .int .i64 (Wid.dg (-y) 3), .int .i64 (Wid.dg (-y) 4), .int .i64 (Wid.dg (-y) 5), .int .i64 (Wid.dg (-y) 6), .int .i64 (Wid.dg (-y) 7), .int .i64 (Wid.dg (-y) 8), .int .i64 (Wid.dg (-y) 9)]) (t := 133) (Below.refl _ _)
              rw [size_grow] at h
              exact h
            have hR : X.rangeAt (wr.heap.size + bs1.size) 0 [.int .i64 (Wid.dg (-y) 0), .int .i64 (Wid.dg (-y) 1), .int .i64 (Wid.dg (-y) 2), .int .i64 (Wid.dg (-y) 3), .int .i64 (Wid.dg (-y) 4), .int .i64 (Wid.dg (-y) 5), .int .i64 (Wid.dg (-y) 6), .int .i64 (Wid.dg (-y) 7), .int .i64 (Wid.dg (-y) 8), .int .i64 (Wid.dg (-y) 9)] := by rw [← hX]; exact Wid.range_call hR0 (grow_below _ _ _)
            clear hX hR0
            have x1 := cell_up hbr2 hbX
            have x2 := cell_up hcr3 hbX
            have x3 := cell_up hcx hbX
            have hu57 := Wid.long_u
            have hi57 : (Tryz.prog.info? 133).map (·.size) = some ([.int .i64 (Wid.dg (-y) 0), .int .i64 (Wid.dg (-y) 1), .int .i64 (Wid.dg (-y) 2), .int .i64 (Wid.dg (-y) 3), .int .i64 (Wid.dg (-y) 4), .int .i64 (Wid.dg (-y) 5), .int .i64 (Wid.dg (-y) 6), .int .i64 (Wid.dg (-y) 7), .int .i64 (Wid.dg (-y) 8), .int .i64 (Wid.dg (-y) 9)] : List Value).length := Wid.long_i
            go_cut [12, 13] (fun s12 s13 wx => s12 = .int .i64 (Wid.f64 (x + (-y))) ∧ s13 = .bool (Wid.fit64 (x + (-y))) ∧ Below wr.heap.size wr wx)
            case first =>
              go_region_held3 (fun w' => w'.cell? ⟨b, 0, none⟩ = some (.slice (some oad) R.length cap) ∧ w'.cell? (oad.add k) = some (.slice (some gad) xs.length gc) ∧ w'.cell? (gad.add j) = some (.int .i64 x) ∧ w'.rangeAt (wr.heap.size + bs1.size) 0 [.int .i64 (Wid.dg (-y) 0), .int .i64 (Wid.dg (-y) 1), .int .i64 (Wid.dg (-y) 2), .int .i64 (Wid.dg (-y) 3), .int .i64 (Wid.dg (-y) 4), .int .i64 (Wid.dg (-y) 5), .int .i64 (Wid.dg (-y) 6), .int .i64 (Wid.dg (-y) 7), .int .i64 (Wid.dg (-y) 8), .int .i64 (Wid.dg (-y) 9)]) ((refine ⟨cell_up x1 ?_, cell_up x2 ?_, cell_up x3 ?_, Wid.range_call hR ?_⟩ <;> (repeat' (first | (with_reducible exact Below.refl _ _) | (with_reducible assumption) | (with_reducible refine below_over ?_ _ _) | (with_reducible refine Lw.below_alloc ?_ _) | (with_reducible refine Below.drew ?_) | (with_reducible refine below_drewN ?_ _) | (with_reducible refine Below.setCell ?_ ?_ _) | go_size)))) (first
                | (go_at_call 70; (with_reducible refine (Wid.rofint_any x _ hxb.1 hxb.2).mono ?_); rintro e w' ⟨rfl, hbx⟩; obtain ⟨bs3, d3, rfl⟩ := below_grow hbx; clear hbx)
                | (go_at_call 73; (with_reducible refine (Wid.rplus_any x (-y) _ _ _ _ _ _ _ _ _ _ _ _ _ _ _ _ _ _ _ _ _ rfl rfl).mono ?_); rintro e w' ⟨rfl, hbx⟩; obtain ⟨bs4, d4, rfl⟩ := below_grow hbx; clear hbx)
                | (go_at_call 72; (with_reducible refine (Wid.rint_any (x + (-y)) _ _ _ _ _ _ _ _ _ _ _ rfl (by omega) (by omega)).mono ?_); rintro e w' ⟨rfl, hbx⟩; obtain ⟨bs5, d5, rfl⟩ := below_grow hbx; clear hbx))
              all_goals go_wp2
              all_goals go_meet
              all_goals refine ⟨rfl, rfl, below_call hbX (w1 := _) ?_ (Nat.le_refl _)⟩
              all_goals (repeat' (first | (with_reducible exact Below.refl _ _) | (with_reducible assumption) | (with_reducible refine below_over ?_ _ _) | (with_reducible refine Lw.below_alloc ?_ _) | (with_reducible refine Below.drew ?_) | (with_reducible refine below_drewN ?_ _) | (with_reducible refine Below.setCell ?_ ?_ _) | go_size))
            case rest =>
              obtain ⟨rfl, rfl, hbc⟩ := hcut
              have hownc := (Kept.of_below (F := fun _ => False) hbc).own hown (fun _ _ h => h)
              have hbc2 := below_call hbi hbc (Nat.le_refl _)
              have hbw2 := below_call hbw hbc (Nat.le_refl _)
              have HNX := Lib.hid (rowS_next (-1) xs ys j x y hx hy)
              have hbcs := hbc2.size
              cases hf : Wid.fit64 (x + (-y))
              · have HNF := Lib.hid (HJ.out ▸ not_fits HLK.out HMK.out hx hy (by rw [hz]; exact hf))
                clear hx hy
                go_wp2
                go_ret
                exact Or.inr ⟨HNF.out, rfl, hbw2⟩
              · have e64 : Wid.f64 (x + (-y)) = x + (-y) := by unfold Wid.f64; rw [if_pos hf]
                rw [e64]
                clear hx hy
                go_wp2_with (at_builtin; (refine app_one .i64 rfl _ _ 45 rfl wo.heap.size 2 i0 8 i64s_u hi hi0 hi1 hi2 (.slice (some ⟨gr, 0, none⟩) j cp) j (rowS (-1) (xs.take j) (ys.take j)) rfl (hownc.alloc _) (x + (-y)) wc.heap.size rfl (cell_one_new _ _ _) (by unfold maxLen; omega) (by omega) (by simp; omega) ?_); intro v1 w1 own1 grow1 oth1; obtain ⟨gg, cc, rfl, hgg, hgl⟩ := own1.form (by omega); have hb1 : Below wo.heap.size wo w1 := app_below3 (Lw.below_alloc hbc2 _) grow1 (fun q hq => own_ge hownc q hq))
                go_roundw
                case rel => exact ⟨j + 1, gg, cc, by omega, by go_num, rfl, by rw [HNX.out, hz]; exact own1, by rw [HNX.out, hz, List.all_append, hfit]; simp [hf], hgg, hb1⟩
                case measure => simp [intOf]; omega
        · have e : j = xs.length := by omega
          subst e
          have hol : u7.ownBlock = u7.ownBlock := rfl
          have hQl : ∀ q, u7.ownBlock = some q → q < wo.heap.size := fun q hq => own_lt HRO.out.outer hq
          have hgrl := own_lt hown (g := gr) rfl
          have hwos := HB.out.size
          have hbis := hbi.size
          have hout := (Kept.of_below (F := fun _ => False) hbi).own HRO.out.outer (fun _ _ h => h)
          rw [HQ.out] at hout
          rw [List.take_of_length_le (Nat.le_refl _), List.take_of_length_le (by have := HXY.out; omega)] at hown hfit
          have hrl : (rowS s xs ys).length = xs.length := by unfold rowS; rw [List.length_zipWith]; have := HXY.out; omega
          have hk8 : k ≤ 8 := by omega
          go_wp2_with (at_builtin; (refine app_val rfl _ _ 102 rfl w.heap.size 45 j0 (.slice none 0 0) 24 rows_u hj hj0 hj1 hj2 rfl _ k (Q.map rowHd) rfl (hout.alloc _) (.slice (some ⟨gr, 0, none⟩) xs.length cp) wr.heap.size rfl (cell_one_new _ _ _) rfl (by unfold maxLen; omega) (by omega) (by have := HB.out.size; simp; omega) ?_); intro g3 cap3 w3 own3 grow3 hat3 hl3)
          go_roundw
          case rel =>
            have K3 : Kept (fun q => u7.ownBlock = some q) wo w3 := ((Kept.of_below hbi).alloc _).grown grow3 (fun q hq => .inl hq)
            have K5 : Kept (fun q => u7.ownBlock = some q) wr w3 := ((Kept.refl _ wr).alloc _).grown grow3 (fun q hq => .inl hq)
            have hrow := own_mono (K5.own hown (fun q hq e => by simp [Value.ownBlock] at hq; have := hQl q e; omega)) hwos
            have hpush := HRO.out.push (g := gr) (c := cp) (zs := rowS s xs ys) (hdr' := .slice (some ⟨g3, 0, none⟩) (k + 1) cap3) K3 (by rw [HQ.out]; simpa [rowHd, hrl] using own3) (by simpa [rowHd, hrl] using hrow) hgr (by
              rcases hat3 with h1 | h1
              · have h9 : u7.ownBlock = some g3 := h1
                exact .inl (by rw [h9]; rfl)
              · have hsz : (wr.alloc (.cells #[.slice (some ⟨gr, 0, none⟩) xs.length cp] 45)).heap.size = wr.heap.size + 1 := by simp
                exact .inr ⟨g3, rfl, by omega, by omega⟩)
            refine ⟨k + 1, Q ++ [(gr, cp, rowS s xs ys)], by omega, by simp [HQ.out], by go_num, hpush, ?_, ?_, K3.low HB.out HB.out.size (fun q hq => own_ge HRO.out.outer q hq)⟩
            · rw [gridS_next s _ _ k xs ys HLK.out HMK.out, ← HNQ.out]; simp [nums]
            · have h1 := HFQ.out
              unfold fitsAll nums at *
              rw [List.map_append, List.all_append, h1]
              simpa using hfit
          case measure => simp [intOf]; omega
    · have e : k = R.length := by omega
      subst e
      rw [List.take_of_length_le (by simp [nums]), List.take_of_length_le (by simp [nums]; have := HLEN.out; omega), HJ.out] at hnq
      obtain ⟨A7, c7, hu7⟩ := own_slice hro.outer
      subst hu7
      have hB := (Kept.of_below (F := fun _ => False) hbel).heap HG.out.cell (fun h => h)
      have hfz := frozen_of_row wr b 0 _ _ hB
      have E : Hid (fitsAll J = true ∧ ∃ (hdr' : Value) (R' : List Row), RG (wr.setCell ⟨b, 0, none⟩ (.slice A7 Q.length c7)) b hdr' R' ∧ nums R' = J ∧ (∀ q, RF b hdr' R' q → q = b ∨ w.heap.size ≤ q) ∧ Kept (fun q => q = b) w (wr.setCell ⟨b, 0, none⟩ (.slice A7 Q.length c7))) := Lib.hid ⟨by rw [← hnq]; exact hfq, _, Q, hro.laid hblt hB, hnq, (fun q hq => by
        rcases hq with h1 | h1 | ⟨r, h1, h2⟩
        · exact .inl h1
        · exact .inr (own_ge hro.outer q h1)
        · exact .inr (h2 ▸ own_ge (hro.rows r h1) r.1 rfl)), Kept.set (F := fun q => q = b) (Kept.of_below hbel) (.inl rfl) 0 _⟩
      clear hnq hfq hro hB hQ
      go_wp2
      go_ret
      exact Or.inl ⟨E.out.1, rfl, E.out.2⟩
end Go.Proofs.YtkannodfamnmcaaGreat.Grd
/- The document's grid as a thing: what its calls answer, and turn. -/
namespace Go.Proofs.YtkannodfamnmcaaGreat.Grd
open Go Go.RowKit Lw
set_option linter.unusedVariables false
def DG (w : World) (q : Addr) (G : Nat → Prop) (m n : Nat) (L : List (List Int)) : Prop :=
  ∃ b hdr R, q = ⟨b, 0, none⟩ ∧ RG w b hdr R ∧ nums R = L ∧ (∀ k, G k ↔ RF b hdr R k) ∧ Dims m n L
def dgT (q : Addr) (G : Nat → Prop) (m n : Nat) (L : List (List Int)) : Thing where
  I := fun w => DG w q G m n L
  F := G
  keep := fun w w' H h hk hf => by
    obtain ⟨b, hdr, R, e, hg, hn, hG, hd⟩ := h
    exact ⟨b, hdr, R, e, hg.keep hk (fun k hk' => hf k ((hG k).2 hk')), hn, hG, hd⟩
  lt := fun w h k hk => by
    obtain ⟨b, hdr, R, e, hg, hn, hG, hd⟩ := h
    exact hg.blt ((hG k).1 hk)
theorem DG.dims {w : World} {q : Addr} {G : Nat → Prop} {m n : Nat} {L : List (List Int)} (h : DG w q G m n L) : Dims m n L := by
  obtain ⟨b, hdr, R, e, hg, hn, hG, hd⟩ := h
  exact hd
theorem nums_len (R : List Row) : (nums R).length = R.length := by simp [nums]
theorem nums_mem {R : List Row} {r : Row} (h : r ∈ R) : r.2.2 ∈ nums R := List.mem_map.2 ⟨r, h, rfl⟩
theorem DG.sizes {R : List Row} {m n : Nat} (hd : Dims m n (nums R)) : R.length ≤ 8 ∧ (∀ r ∈ R, r.2.2.length ≤ 128) ∧ (∀ r ∈ R, In64 r.2.2) := by
  refine ⟨by rw [← nums_len, hd.len]; exact hd.m8, fun r hr => ?_, fun r hr => (hd.rows _ (nums_mem hr)).2⟩
  rw [(hd.rows _ (nums_mem hr)).1]
  exact hd.n128
theorem dnew_any (rows width : Int) (w : World) (r0 : -9223372036854775808 ≤ rows) (r1 : rows ≤ 9223372036854775807) (c0 : -9223372036854775808 ≤ width) (c1 : width ≤ 9223372036854775807) :
    Calls Tryz.prog 60 #[.int .i64 rows, .int .i64 width] w fun e w' => ∃ (q : Addr) (G : Nat → Prop), e = .returned (.pointer (some q)) ∧ DG w' q G (cl rows 8) (cl width 128) (zerosL (cl rows 8) (cl width 128)) ∧ (∀ k, G k → w.heap.size ≤ k) ∧ Below w.heap.size w w' := by
  refine (rnew_any rows width w r0 r1 c0 c1).mono ?_
  rintro e w' ⟨b, hdr, R, rfl, hg, hz, hf, hb⟩
  exact ⟨⟨b, 0, none⟩, RF b hdr R, rfl, ⟨b, hdr, R, rfl, hg, hz, fun k => Iff.rfl, dims_zeros (by unfold cl; omega) (by unfold cl; omega)⟩, hf, hb⟩
theorem dcells_any (q : Addr) (G : Nat → Prop) (m n : Nat) (L : List (List Int)) (w : World) (h : DG w q G m n L) :
    Calls Tryz.prog 52 #[.pointer (some q)] w fun e w' => ∃ (A : Addr) (cap : Nat), e = .returned (.slice (some A) (m * n) cap) ∧ Rd .i64 w' (some A) L.flatten ∧ m * n ≤ cap ∧ cap ≤ maxLen ∧ w.heap.size ≤ A.block ∧ Below w.heap.size w w' := by
  obtain ⟨b, hdr, R, rfl, hg, rfl, hG, hd⟩ := h
  obtain ⟨s1, s2, s3⟩ := DG.sizes hd
  have h := rcells_any b hdr R (nums R).flatten w hg rfl s1 s2
  rw [flat_dims hd] at h
  exact h
theorem djoin_any (q : Addr) (G : Nat → Prop) (m n : Nat) (L : List (List Int)) (q2 : Addr) (G2 : Nat → Prop) (M : List (List Int)) (s : Int) (w : World) (h : DG w q G m n L) (h2 : DG w q2 G2 m n M) (hs : s = 1 ∨ s = -1) :
    Calls Tryz.prog 74 #[.pointer (some q), .pointer (some q2), .int .i64 s] w fun e w' => e = .returned (.int .i64 (jcode s m n m n L M)) ∧ ∃ G', DG w' q G' m n (jres s m n m n L M) ∧ Kept G w w' ∧ (∀ k, G' k → G k ∨ w.heap.size ≤ k) := by
  obtain ⟨b, hdr, R, rfl, hg, rfl, hG, hd⟩ := h
  obtain ⟨b2, hdr2, R2, rfl, hg2, rfl, hG2, hd2⟩ := h2
  obtain ⟨s1, s2, s3⟩ := DG.sizes hd
  obtain ⟨t1, t2, t3⟩ := DG.sizes hd2
  have hlen : R.length = R2.length := by rw [← nums_len, ← nums_len R2, hd.len, hd2.len]
  refine (rjoin_any b b2 hdr hdr2 R R2 s w hg hg2 hs hlen ?_ s1 s2 s3 t3 _ rfl).mono ?_
  · intro i r r2 hr hr2
    rw [(hd.rows _ (nums_mem (List.mem_of_getElem? hr))).1, (hd2.rows _ (nums_mem (List.mem_of_getElem? hr2))).1]
  · rintro e w' (⟨hf, rfl, hdr', R', hg', hn', hF', hk⟩ | ⟨hf, rfl, hb⟩)
    · refine ⟨by simp [jcode, hf], RF b hdr' R', ⟨b, hdr', R', rfl, hg', by rw [hn']; simp [jres, hf], fun k => Iff.rfl, ?_⟩, hk.mono (fun k _ h => by subst h; exact (hG _).2 (.inl rfl)), fun k hk' => ?_⟩
      · have := hd.join hd2 hf
        simpa [jres, hf] using this
      · rcases hF' k hk' with h1 | h1
        · subst h1; exact .inl ((hG _).2 (.inl rfl))
        · exact .inr h1
    · refine ⟨by simp [jcode, hf], G, ⟨b, hdr, R, rfl, hg.keep (Kept.of_below (F := fun _ => False) hb) (fun _ _ h => h), by simp [jres, hf], hG, by simpa [jres, hf] using hd⟩, Kept.of_below hb, fun k h => .inl h⟩
end Go.Proofs.YtkannodfamnmcaaGreat.Grd
