/- Rows of numbers behind a slice: what is read of them, rows that a call owns, and lists that a law is handed. For every stage. -/
import Derived.Test.YtdhljlhecoclfaaRows
import Derived.Test.YtdhljlhecoclfaaGrow
import Derived.Test.YtdhljlhecoclfaaLaw
import Derived.WalkKit
import Derived.WalkSpells
import Derived.Laws.AppendOwnNone
import Derived.Deep.AppendLies
import Derived.Lib.Hide
namespace Go.Proofs.Ytdhljlhecoclfaa.Lw
open Go Go.RowKit
set_option linter.unusedVariables false
/-- The numbers zs lie behind the address A. -/
def Rd (k : IntKind) (w : World) (A : Option Addr) (zs : List Int) : Prop := ∀ j v, zs[j]? = some v → ∃ ad, A = some ad ∧ w.cell? (ad.add j) = some (.int k v)
theorem cell_lt {w : World} {a : Addr} {v : Value} (h : w.cell? a = some v) : a.block < w.heap.size := by
  rcases Nat.lt_or_ge a.block w.heap.size with h1 | h1
  · exact h1
  · have : w.heap[a.block]? = none := by simp [h1]
    simp [World.cell?, this] at h
theorem cell_up {w w1 : World} {a : Addr} {v : Value} (h : w.cell? a = some v) (hb : Below w.heap.size w w1) : w1.cell? a = some v := by
  rw [hb.cell (cell_lt h)]; exact h
theorem Rd.up {k : IntKind} {w w1 : World} {A : Option Addr} {zs : List Int} (h : Rd k w A zs) (hb : Below w.heap.size w w1) : Rd k w1 A zs := by
  intro j v hv
  obtain ⟨ad, e, hc⟩ := h j v hv
  exact ⟨ad, e, cell_up hc hb⟩
theorem Rd.at {k : IntKind} {w : World} {ad : Addr} {zs : List Int} (h : Rd k w (some ad) zs) {j : Nat} {v : Int} (hv : zs[j]? = some v) : w.cell? (ad.add j) = some (.int k v) := by
  obtain ⟨ad2, e, hc⟩ := h j v hv
  injection e with e
  subst e
  exact hc
theorem Rd.some_of {k : IntKind} {w : World} {A : Option Addr} {zs : List Int} (h : Rd k w A zs) (hl : 0 < zs.length) : ∃ ad, A = some ad := by
  obtain ⟨ad, e, _⟩ := h 0 zs[0] (List.getElem?_eq_getElem hl)
  exact ⟨ad, e⟩
theorem rd_nil (k : IntKind) (w : World) (A : Option Addr) : Rd k w A [] := fun j v h => by simp at h
theorem add_add' (a : Addr) (i j : Nat) : (a.add i).add j = a.add (i + j) := by
  unfold Addr.add
  by_cases hi : i = 0 <;> by_cases hj : j = 0 <;> simp [hi, hj, Nat.add_assoc]
theorem Rd.take {k : IntKind} {w : World} {A : Option Addr} {zs : List Int} (h : Rd k w A zs) (m : Nat) : Rd k w A (zs.take m) := by
  intro j v hv
  rw [List.getElem?_take] at hv
  split at hv
  · exact h j v hv
  · cases hv
theorem Rd.drop {k : IntKind} {w : World} {ad : Addr} {zs : List Int} (h : Rd k w (some ad) zs) (m : Nat) : Rd k w (some (ad.add m)) (zs.drop m) := by
  intro j v hv
  rw [List.getElem?_drop] at hv
  exact ⟨_, rfl, by rw [add_add']; exact h.at hv⟩
/-- What 'append' reads. -/
theorem Rd.news {k : IntKind} {w w1 : World} {ad : Addr} {zs : List Int} (h : Rd k w (some ad) zs) (hb : Below w.heap.size w w1) : ∀ j u, (zs.map (Value.int k))[j]? = some u → w1.cell? (ad.add j) = some u := by
  intro j u hj
  rw [List.getElem?_map] at hj
  obtain ⟨v, hv, rfl⟩ := Option.map_eq_some_iff.1 hj
  exact cell_up (h.at hv) hb
theorem one_ints (k : IntKind) (l : List Int) : ∀ u ∈ l.map (Value.int k), u.oneCell' = true := by
  intro u hu
  obtain ⟨v, _, rfl⟩ := List.mem_map.1 hu
  rfl
theorem own_empty (w : World) (e : TypeId) (size base : Nat) (hb : base ≤ w.heap.size) : (w.alloc (.cells #[] e)).ownsRow base e size (.slice (some ⟨w.heap.size, 0, none⟩) 0 0) 0 [] :=
  ⟨by simp, .inr ⟨w.heap.size, 0, #[], rfl, hb, heap_alloc_new w _, Nat.le_refl _, by simp, by simp, by simp⟩⟩
theorem app_below {X w2 : World} {o : Obj} {g : Nat} (h : (X.alloc o).grownBy w2 (some g)) (hg : X.heap.size ≤ g) : Below X.heap.size X w2 :=
  ((Below.refl _ _).alloc (Nat.le_refl _) o).grown h (by simp) (fun k hk => by injection hk with hk; omega)
theorem own_rd {k : IntKind} {w : World} {base : Nat} {e : TypeId} {v : Value} {n : Nat} {zs : List Int} (h : w.ownsRow base e 1 v n (zs.map (Value.int k))) : ∃ A cap, v = .slice A n cap ∧ Rd k w A zs ∧ n ≤ cap ∧ cap ≤ maxLen ∧ (A = none → n = 0 ∧ cap = 0) := by
  have h0 := h
  obtain ⟨h1, h2⟩ := h
  rcases h2 with ⟨rfl, rfl⟩ | ⟨g, cap, cur, rfl, hbase, hh, hl, hm, _⟩
  · refine ⟨none, 0, rfl, ?_, Nat.le_refl _, by simp, fun _ => ⟨rfl, rfl⟩⟩
    intro j v hk
    have : zs = [] := by simpa using h1
    subst this
    simp at hk
  · refine ⟨some ⟨g, 0, none⟩, cap, rfl, ?_, hl, hm, fun h => by cases h⟩
    intro j v hk
    exact ⟨_, rfl, h0.cells (g := g) rfl j _ (by rw [List.getElem?_map, hk]; rfl)⟩
def In64 (zs : List Int) : Prop := ∀ v ∈ zs, -9223372036854775808 ≤ v ∧ v ≤ 9223372036854775807
theorem in64_take {zs : List Int} (h : In64 zs) (m : Nat) : In64 (zs.take m) := fun v hv => h v (List.mem_of_mem_take hv)
theorem in64_drop {zs : List Int} (h : In64 zs) (m : Nat) : In64 (zs.drop m) := fun v hv => h v (List.mem_of_mem_drop hv)
theorem in64_nil : In64 [] := fun v h => by simp at h
theorem in64_app {xs ys : List Int} (h : In64 xs) (g : In64 ys) : In64 (xs ++ ys) := fun v hv => (List.mem_append.1 hv).elim (h v) (g v)
theorem in64_one {x : Int} (h0 : -9223372036854775808 ≤ x) (h1 : x ≤ 9223372036854775807) : In64 [x] := fun v hv => by simp at hv; subst hv; exact ⟨h0, h1⟩
theorem In64.at {zs : List Int} (h : In64 zs) {j : Nat} {v : Int} (hv : zs[j]? = some v) : -9223372036854775808 ≤ v ∧ v ≤ 9223372036854775807 := h v (List.mem_of_getElem? hv)
/-- 'append' onto a row that the call owns (not nil), of whatever slice of numbers: nil too: at the operation. -/
theorem app_wp {P : Program} {w : World} {o : Oper} {a : Act} {K : Act → World → Prop} {Q : Exit → Act → World → Prop} (k : IntKind) (s x : Operand) (t : TypeId)
    (ho : o.op = .call { callee := .builtin .append, args := #[s, x], argTypes := #[t, t] })
    (base : Nat) (e : TypeId) (i : TypeInfo) (bytes : Nat) (ht : P.underlying t = some (.slice e)) (hi : P.info? e = some i) (hz : i.zero = some (.int k 0)) (hsize : i.size = 1) (hby : i.bytes = bytes)
    (v : Value) (n : Nat) (xs : List Int) (hs : a.eval s = v) (hown : w.ownsRow base e 1 v n (xs.map (Value.int k))) (hv : v ≠ .slice none 0 0)
    (A : Option Addr) (m c : Nat) (zs : List Int) (hx : a.eval x = .slice A m c) (hA : A = none → m = 0 ∧ c = 0) (hl : zs.length = m) (hr : Rd k w A zs) (h63 : n + m ≤ maxLen) (hbytes : (n + m) * bytes ≤ 140737488355328) (hbase : base ≤ w.heap.size)
    (h : ∀ A' cap' w', w'.ownsRow base e 1 (.slice (some A') (n + m) cap') (n + m) ((xs ++ zs).map (Value.int k)) → w.grownBy w' v.ownBlock → Rd k w' (some A') (xs ++ zs) → n + m ≤ cap' → cap' ≤ maxLen → K (a.put o.dst (.slice (some A') (n + m) cap')) w') :
    o.wp P a w K Q := by
  cases A with
  | none =>
    obtain ⟨rfl, rfl⟩ := hA rfl
    obtain rfl : zs = [] := List.eq_nil_of_length_eq_zero hl
    obtain ⟨A', cap', hv', hrd, h1, h2, h3⟩ := own_rd hown
    have hrun := run_append_owned_none (P := P) (w := w) base t o.type e i 1 ht hi v n _ hown
    cases A' with
    | none => obtain ⟨rfl, rfl⟩ := h3 rfl; exact absurd hv' hv
    | some A' =>
      have hh := h A' cap' w (by rw [List.append_nil]; have h5 := hown; rw [hv'] at h5; exact h5) ⟨rfl, rfl, rfl, Nat.le_refl _, fun _ _ _ => rfl⟩ (by rw [List.append_nil]; exact hrd) h1 h2
      unfold Oper.wp
      simp [execOp, ho, resolve, invoke, builtin, hs, hx, hrun, Result.andThen]
      rw [hv']
      exact hh
  | some ad =>
    refine wp_append_own w s x t ho base e i (.int k 0) 1 bytes ht hi hz hsize hby rfl (by decide) v n _ hs hown ad m c (zs.map (Value.int k)) hx (by simp; omega) (hr.news (Below.refl _ _)) (one_ints _ _) h63 hbytes hbase ?_
    intro v' w' hown2 hgrow hnil
    rw [← List.map_append] at hown2
    obtain ⟨A', cap', rfl, hrd, h1, h2, h3⟩ := own_rd hown2
    cases A' with
    | none =>
      obtain ⟨h4, rfl⟩ := h3 rfl
      rw [h4] at hnil
      exact absurd (hnil.1 rfl).1 hv
    | some A' => exact h A' cap' w' hown2 hgrow hrd h1 h2
/-- .. at the list of a plain region's operations. -/
theorem app_any {P : Program} {w : World} {ops : Array Oper} {rest : List Oper} {o : Oper} {a : Act} {Q : Exit → Act → World → Prop} (k : IntKind) (hgd : o.guard = none) (s x : Operand) (t : TypeId)
    (ho : o.op = .call { callee := .builtin .append, args := #[s, x], argTypes := #[t, t] })
    (base : Nat) (e : TypeId) (i : TypeInfo) (bytes : Nat) (ht : P.underlying t = some (.slice e)) (hi : P.info? e = some i) (hz : i.zero = some (.int k 0)) (hsize : i.size = 1) (hby : i.bytes = bytes)
    (v : Value) (n : Nat) (xs : List Int) (hs : a.eval s = v) (hown : w.ownsRow base e 1 v n (xs.map (Value.int k))) (hv : v ≠ .slice none 0 0)
    (A : Option Addr) (m c : Nat) (zs : List Int) (hx : a.eval x = .slice A m c) (hA : A = none → m = 0 ∧ c = 0) (hl : zs.length = m) (hr : Rd k w A zs) (h63 : n + m ≤ maxLen) (hbytes : (n + m) * bytes ≤ 140737488355328) (hbase : base ≤ w.heap.size)
    (h : ∀ A' cap' w', w'.ownsRow base e 1 (.slice (some A') (n + m) cap') (n + m) ((xs ++ zs).map (Value.int k)) → w.grownBy w' v.ownBlock → Rd k w' (some A') (xs ++ zs) → n + m ≤ cap' → cap' ≤ maxLen → wpList P ops Q rest (a.put o.dst (.slice (some A') (n + m) cap')) w') :
    wpList P ops Q (o :: rest) a w :=
  wpList_plain hgd fun _ hK => app_wp k s x t ho base e i bytes ht hi hz hsize hby v n xs hs hown hv A m c zs hx hA hl hr h63 hbytes hbase fun A' cap' w' g1 g2 g3 g4 g5 => hK _ _ (h A' cap' w' g1 g2 g3 g4 g5)
/-- .. at a step of a region that draws its order. -/
theorem app_step {P : Program} {w : World} {ops : Array Oper} {o : Oper} {a : Act} {K : Act → World → Prop} {Q : Exit → Act → World → Prop} {E : Prop} (k : IntKind) (hgd : o.guard = none) (s x : Operand) (t : TypeId)
    (ho : o.op = .call { callee := .builtin .append, args := #[s, x], argTypes := #[t, t] })
    (base : Nat) (e : TypeId) (i : TypeInfo) (bytes : Nat) (ht : P.underlying t = some (.slice e)) (hi : P.info? e = some i) (hz : i.zero = some (.int k 0)) (hsize : i.size = 1) (hby : i.bytes = bytes)
    (v : Value) (n : Nat) (xs : List Int) (hs : a.eval s = v) (hown : w.ownsRow base e 1 v n (xs.map (Value.int k))) (hv : v ≠ .slice none 0 0)
    (A : Option Addr) (m c : Nat) (zs : List Int) (hx : a.eval x = .slice A m c) (hA : A = none → m = 0 ∧ c = 0) (hl : zs.length = m) (hr : Rd k w A zs) (h63 : n + m ≤ maxLen) (hbytes : (n + m) * bytes ≤ 140737488355328) (hbase : base ≤ w.heap.size)
    (h : ∀ A' cap' w', w'.ownsRow base e 1 (.slice (some A') (n + m) cap') (n + m) ((xs ++ zs).map (Value.int k)) → w.grownBy w' v.ownBlock → Rd k w' (some A') (xs ++ zs) → n + m ≤ cap' → cap' ≤ maxLen → K (a.put o.dst (.slice (some A') (n + m) cap')) w') :
    if Region.wanted o (yielded ops a.tmps) = true then Oper.wp P o a w K Q else E := by
  rw [if_pos (by simp [Region.wanted, hgd])]
  exact app_wp k s x t ho base e i bytes ht hi hz hsize hby v n xs hs hown hv A m c zs hx hA hl hr h63 hbytes hbase h
theorem app_below2 {w X w2 : World} {g : Nat} (hX : Below w.heap.size w X) (h : X.grownBy w2 (some g)) (hg : w.heap.size ≤ g) : Below w.heap.size w w2 :=
  hX.grown h hX.size (fun k hk => by injection hk with hk; omega)
theorem below_call {B : Nat} {W0 wa w1 : World} (h : Below B W0 wa) (hb : Below wa.heap.size wa w1) (hB : B ≤ W0.heap.size) : Below B W0 w1 :=
  h.trans (hb.mono (Nat.le_trans hB h.size))
theorem own_ge {w : World} {base : Nat} {e : TypeId} {size : Nat} {v : Value} {n : Nat} {xs : List Value} (h : w.ownsRow base e size v n xs) : ∀ k, v.ownBlock = some k → base ≤ k := by
  obtain ⟨_, h2⟩ := h
  rcases h2 with ⟨rfl, _⟩ | ⟨g, cap, cur, rfl, hbase, _⟩
  · intro k hk; simp [Value.ownBlock] at hk
  · intro k hk; simp [Value.ownBlock] at hk; omega
theorem own_empty2 (w : World) (o : Obj) (e : TypeId) (size base : Nat) (hb : base ≤ w.heap.size) : ((w.alloc o).alloc (.cells #[] e)).ownsRow base e size (.slice (some ⟨w.heap.size + 1, 0, none⟩) 0 0) 0 [] := by
  have h := own_empty (w.alloc o) e size base (by simp; omega)
  have e2 : (w.alloc o).heap.size = w.heap.size + 1 := by simp
  rw [e2] at h
  exact h
theorem rd_one {k : IntKind} {w : World} {B : Nat} {x : Int} (h : w.cell? ⟨B, 0, none⟩ = some (.int k x)) : Rd k w (some ⟨B, 0, none⟩) [x] := by
  intro j v hj
  match j, hj with
  | 0, hj =>
    simp at hj
    subst hj
    exact ⟨_, rfl, by simpa [Addr.add] using h⟩
theorem app_below3 {w X w2 : World} {row : Option Nat} (hX : Below w.heap.size w X) (h : X.grownBy w2 row) (hrow : ∀ q, row = some q → w.heap.size ≤ q) : Below w.heap.size w w2 := hX.grown h hX.size hrow
theorem rd2 {k : IntKind} {w : World} {B : Nat} {a b : Int} (h0 : w.cell? ⟨B, 0, none⟩ = some (.int k a)) (h1 : w.cell? ⟨B, 1, none⟩ = some (.int k b)) : Rd k w (some ⟨B, 0, none⟩) [a, b] := by
  intro j v hj
  match j, hj with
  | 0, hj =>
    simp at hj
    subst hj
    exact ⟨_, rfl, by simpa [Addr.add] using h0⟩
  | 1, hj =>
    simp at hj
    subst hj
    exact ⟨_, rfl, by simpa [Addr.add] using h1⟩
theorem rd3 {k : IntKind} {w : World} {B : Nat} {a b c : Int} (h0 : w.cell? ⟨B, 0, none⟩ = some (.int k a)) (h1 : w.cell? ⟨B, 1, none⟩ = some (.int k b)) (h2 : w.cell? ⟨B, 2, none⟩ = some (.int k c)) : Rd k w (some ⟨B, 0, none⟩) [a, b, c] := by
  intro j v hj
  match j, hj with
  | 0, hj =>
    simp at hj
    subst hj
    exact ⟨_, rfl, by simpa [Addr.add] using h0⟩
  | 1, hj =>
    simp at hj
    subst hj
    exact ⟨_, rfl, by simpa [Addr.add] using h1⟩
  | 2, hj =>
    simp at hj
    subst hj
    exact ⟨_, rfl, by simpa [Addr.add] using h2⟩
theorem rd4 {k : IntKind} {w : World} {B : Nat} {a b c d : Int} (h0 : w.cell? ⟨B, 0, none⟩ = some (.int k a)) (h1 : w.cell? ⟨B, 1, none⟩ = some (.int k b)) (h2 : w.cell? ⟨B, 2, none⟩ = some (.int k c)) (h3 : w.cell? ⟨B, 3, none⟩ = some (.int k d)) : Rd k w (some ⟨B, 0, none⟩) [a, b, c, d] := by
  intro j v hj
  match j, hj with
  | 0, hj =>
    simp at hj
    subst hj
    exact ⟨_, rfl, by simpa [Addr.add] using h0⟩
  | 1, hj =>
    simp at hj
    subst hj
    exact ⟨_, rfl, by simpa [Addr.add] using h1⟩
  | 2, hj =>
    simp at hj
    subst hj
    exact ⟨_, rfl, by simpa [Addr.add] using h2⟩
  | 3, hj =>
    simp at hj
    subst hj
    exact ⟨_, rfl, by simpa [Addr.add] using h3⟩
/-! ### Rows apart -/
def Apart (a b : Value) : Prop := ∀ g, a.ownBlock = some g → b.ownBlock ≠ some g
theorem Apart.symm {a b : Value} (h : Apart a b) : Apart b a := fun g hb ha => h g ha hb
theorem apart_nil (b : Value) : Apart (.slice none 0 0) b := fun g h => by simp [Value.ownBlock] at h
theorem Apart.ne {a b : Value} (h : Apart a b) : a.ownBlock = none ∨ a.ownBlock ≠ b.ownBlock := by
  cases ha : a.ownBlock with
  | none => exact .inl rfl
  | some g => exact .inr fun e => h g ha e.symm
theorem own_lt {w : World} {base : Nat} {e : TypeId} {size : Nat} {v : Value} {n : Nat} {xs : List Value} (h : w.ownsRow base e size v n xs) {g : Nat} (hg : v.ownBlock = some g) : g < w.heap.size := by
  obtain ⟨_, h2⟩ := h
  rcases h2 with ⟨rfl, _⟩ | ⟨b, cap, cur, rfl, hbase, hh, _⟩
  · simp [Value.ownBlock] at hg
  · simp [Value.ownBlock] at hg
    subst hg
    rcases Nat.lt_or_ge b w.heap.size with h1 | h1
    · exact h1
    · rw [Array.getElem?_eq_none h1] at hh; cases hh
/-- One number appended to a row of one's own; rows apart stay, and stay apart. -/
theorem app_one {P : Program} {w : World} {ops : Array Oper} {rest : List Oper} {o : Oper} {a : Act} {Q : Exit → Act → World → Prop} (k : IntKind) (hgd : o.guard = none) (s x : Operand) (t : TypeId)
    (ho : o.op = .call { callee := .builtin .append, args := #[s, x], argTypes := #[t, t] })
    (base : Nat) (e : TypeId) (i : TypeInfo) (bytes : Nat) (ht : P.underlying t = some (.slice e)) (hi : P.info? e = some i) (hz : i.zero = some (.int k 0)) (hsize : i.size = 1) (hby : i.bytes = bytes)
    (v : Value) (n : Nat) (xs : List Int) (hs : a.eval s = v) (hown : w.ownsRow base e 1 v n (xs.map (Value.int k)))
    (X : Int) (B : Nat) (hx : a.eval x = .slice (some ⟨B, 0, none⟩) 1 1) (hc : ∀ j u, ([Value.int k X] : List Value)[j]? = some u → w.cell? ((⟨B, 0, none⟩ : Addr).add j) = some u) (h63 : n + 1 ≤ maxLen) (hbytes : (n + 1) * bytes ≤ 140737488355328) (hbase : base ≤ w.heap.size)
    (h : ∀ v' w', w'.ownsRow base e 1 v' (n + 1) ((xs ++ [X]).map (Value.int k)) → w.grownBy w' v.ownBlock →
      (∀ b m ys, w.ownsRow base e 1 b m ys → Apart b v → w'.ownsRow base e 1 b m ys ∧ Apart b v') → wpList P ops Q rest (a.put o.dst v') w') :
    wpList P ops Q (o :: rest) a w := by
  refine wpList_append_lies w hgd s x t ho base e i (.int k 0) 1 bytes ht hi hz hsize hby rfl (by decide) v n _ hs hown ⟨B, 0, none⟩ 1 1 [.int k X] hx rfl hc (by intro u hu; simp at hu; subst hu; rfl) (by decide) h63 hbytes hbase w.heap.size rfl ?_
  intro g cap w' hown2 hgrow hat hlt
  refine h _ w' (by rw [List.map_append]; exact hown2) hgrow ?_
  intro b m ys hb hap
  refine ⟨hb.kept hgrow hap.ne, ?_⟩
  intro q hq hq2
  simp [Value.ownBlock] at hq2
  subst hq2
  rcases hat with hat | hat
  · exact hap _ hq hat
  · have := own_lt hb hq
    omega
/-- One value appended to a row of one's own (whatever it holds); rows apart stay, and stay apart. -/
theorem app_val {P : Program} {w : World} {ops : Array Oper} {rest : List Oper} {o : Oper} {a : Act} {Q : Exit → Act → World → Prop} (hgd : o.guard = none) (s x : Operand) (t : TypeId)
    (ho : o.op = .call { callee := .builtin .append, args := #[s, x], argTypes := #[t, t] })
    (base : Nat) (e : TypeId) (i : TypeInfo) (z : Value) (bytes : Nat) (ht : P.underlying t = some (.slice e)) (hi : P.info? e = some i) (hz : i.zero = some z) (hsize : i.size = 1) (hby : i.bytes = bytes) (hzs : z.cells.size = 1)
    (v : Value) (n : Nat) (xs : List Value) (hs : a.eval s = v) (hown : w.ownsRow base e 1 v n xs)
    (X : Value) (B : Nat) (hx : a.eval x = .slice (some ⟨B, 0, none⟩) 1 1) (hc : ∀ j u, ([X] : List Value)[j]? = some u → w.cell? ((⟨B, 0, none⟩ : Addr).add j) = some u) (hX : X.oneCell' = true) (h63 : n + 1 ≤ maxLen) (hbytes : (n + 1) * bytes ≤ 140737488355328) (hbase : base ≤ w.heap.size)
    (h : ∀ g cap w', w'.ownsRow base e 1 (.slice (some ⟨g, 0, none⟩) (n + 1) cap) (n + 1) (xs ++ [X]) → w.grownBy w' v.ownBlock → (v.ownBlock = some g ∨ g = w.heap.size) → g < w'.heap.size → wpList P ops Q rest (a.put o.dst (.slice (some ⟨g, 0, none⟩) (n + 1) cap)) w') :
    wpList P ops Q (o :: rest) a w :=
  wpList_append_lies w hgd s x t ho base e i z 1 bytes ht hi hz hsize hby hzs (by decide) v n xs hs hown ⟨B, 0, none⟩ 1 1 [X] hx rfl hc (by intro u hu; simp at hu; subst hu; exact hX) (by decide) h63 hbytes hbase w.heap.size rfl h
end Go.Proofs.Ytdhljlhecoclfaa.Lw
