/- Texts that statements lean on, put together: HvyGat, HvyOrd, QntArr, SpnAdd, StkCut, StkHas, HvyIn, SpnBtw, StkThing, SpnIn, StkIt, StkFst, StkPt, StkPlain, SpnNum. -/
import Derived.Test.YtmdkdjgamhaeoaaGreatQa
import Derived.Test.YtmdkdjgamhaeoaaGreatQb
import Derived.Test.YtmdkdjgamhaeoaaGreatQd
import Derived.Test.YtmdkdjgamhaeoaaGreatQf
import Derived.Test.YtmdkdjgamhaeoaaGreatQg
import Derived.Test.YtmdkdjgamhaeoaaGreatQi
import Derived.Test.YtmdkdjgamhaeoaaGreatQk
import Derived.Deep.MidRow
import Derived.Deep.WholeRow
import Derived.Deep.LoopGhost
import Derived.Deep.RegionHeld3
import Derived.Deep.DeepCutAuto
import Derived.Deep.QuietTactic
import Derived.BigQuiet
import Derived.Laws.EntriesVeiled
import Derived.Shelf.SlSortCmp.QuietGrown
import Derived.Shelf.Abstract
import Derived.Shelf.RegionOpen
import Derived.WalkKit
import Derived.OwnWalkIn
import Derived.TacticsInMore
import Derived.LoopNIn
import Derived.LoopIn
import Derived.RangeFuncBox
/- The sums that a closure gathers within a piece, in numbers: it keeps what is kept pair by pair. For stages from 18 on. By hand. -/
namespace Go.Proofs.YtmdkdjgamhaeoaaGreat.Hvy
open Go Go.RowKit Lw Grd Lin Con Shp Sk Exa Lev Stk Pcs Spn Qnt
set_option linter.unusedVariables false
/-- What is told of a piece. -/
def toldQ (pt : Nat → Int → Int) (least : Int) (B L i : Nat) : Option Int := if L ≤ B ∧ i ∈ askQ pt least B (B - L) ∧ least ≤ pt L ((i : Nat) : Int) then some (pt L ((i : Nat) : Int)) else none
/-- The sum of one piece, by that of what lies in it. -/
def gOne (T : Nat → Nat → Option Int) (least : Int) (L i : Nat) (s : Int) : Int :=
  match T L i with
  | none => 0
  | some n => if Wid.f64 (n - s) < least then s else n
def gW (T : Nat → Nat → Option Int) (least : Int) : Nat → Nat → Int
  | 0, i => gOne T least 0 i 0
  | L + 1, i => gOne T least (L + 1) i (gW T least L (2 * i) + gW T least L (2 * i + 1))
/-- The sum of what is kept within a piece, but for itself. -/
def gS (T : Nat → Nat → Option Int) (least : Int) : Nat → Nat → Int
  | 0, _ => 0
  | L + 1, i => gW T least L (2 * i) + gW T least L (2 * i + 1)
theorem gW_eq (T : Nat → Nat → Option Int) (least : Int) (L i : Nat) : gW T least L i = gOne T least L i (gS T least L i) := by
  cases L <;> rfl
/-- What is kept of one piece. -/
def gTop (T : Nat → Nat → Option Int) (least : Int) (L i : Nat) : List Kp :=
  match T L i with
  | none => []
  | some n => if Wid.f64 (n - gS T least L i) < least then [] else [((L, i), n, Wid.f64 (n - gS T least L i))]
/-- What is kept within a piece of one level. -/
def gL (T : Nat → Nat → Option Int) (least : Int) : Nat → Nat → Nat → List Kp
  | 0, i, M => if M = 0 then gTop T least 0 i else []
  | L + 1, i, M =>
    match T (L + 1) i with
    | none => []
    | some _ => gL T least L (2 * i) M ++ gL T least L (2 * i + 1) M ++ (if M = L + 1 then gTop T least (L + 1) i else [])
/-- Does each rest fit? -/
def gF (T : Nat → Nat → Option Int) (least : Int) : Nat → Nat → Bool
  | 0, i =>
    match T 0 i with
    | none => true
    | some n => Wid.fit64 n
  | L + 1, i =>
    match T (L + 1) i with
    | none => true
    | some n => gF T least L (2 * i) && gF T least L (2 * i + 1) && Wid.fit64 (n - gS T least (L + 1) i)
theorem gW_none {T : Nat → Nat → Option Int} {least : Int} {L i : Nat} (h : T L i = none) : gW T least L i = 0 := by
  rw [gW_eq, gOne, h]
theorem gL_none {T : Nat → Nat → Option Int} {least : Int} {L i : Nat} (h : T L i = none) (M : Nat) : gL T least L i M = [] := by
  cases L with
  | zero =>
    rw [gL, gTop, h]
    simp
  | succ L =>
    rw [gL, h]
theorem gF_none {T : Nat → Nat → Option Int} {least : Int} {L i : Nat} (h : T L i = none) : gF T least L i = true := by
  cases L with
  | zero => rw [gF, h]
  | succ L => rw [gF, h]
theorem gL_above {T : Nat → Nat → Option Int} {least : Int} : ∀ {L i M : Nat}, L < M → gL T least L i M = []
  | 0, i, M, h => by
    rw [gL, if_neg (by omega)]
  | L + 1, i, M, h => by
    rw [gL]
    cases T (L + 1) i with
    | none => rfl
    | some n =>
      simp only
      rw [gL_above (by omega), gL_above (by omega), if_neg (by omega)]
      rfl
theorem gL_self {T : Nat → Nat → Option Int} {least : Int} (L i : Nat) : gL T least L i L = gTop T least L i := by
  cases L with
  | zero => rw [gL, if_pos rfl]
  | succ L =>
    cases h : T (L + 1) i with
    | none =>
      rw [gL_none h, gTop, h]
    | some n =>
      rw [gL, h]
      simp only
      rw [gL_above (by omega), gL_above (by omega)]
      simp
/-- Sums are bounded. -/
theorem gW_bd {T : Nat → Nat → Option Int} {least : Int} (hT : ∀ (L i : Nat) (n : Int), T L i = some n → -9223372036854775808 ≤ n ∧ n ≤ 9223372036854775807) : ∀ (L i : Nat), -((2 : Int) ^ L * 9223372036854775808) ≤ gW T least L i ∧ gW T least L i ≤ (2 : Int) ^ L * 9223372036854775808
  | 0, i => by
    rw [gW, gOne]
    cases h : T 0 i with
    | none => simp
    | some n =>
      have := hT 0 i n h
      simp only
      split <;> simp <;> omega
  | L + 1, i => by
    have h1 := gW_bd (least := least) hT L (2 * i)
    have h2 := gW_bd (least := least) hT L (2 * i + 1)
    have hp : (1 : Int) ≤ (2 : Int) ^ L := by have := Int.pow_pos (n := 2) (m := L) (by decide); omega
    have e : (2 : Int) ^ (L + 1) = 2 * (2 : Int) ^ L := by rw [Int.pow_succ, Int.mul_comm]
    rw [gW, gOne, e]
    generalize (2 : Int) ^ L = P at *
    cases h : T (L + 1) i with
    | none => simp only; omega
    | some n =>
      have := hT (L + 1) i n h
      simp only
      split <;> omega
theorem gS_bd {T : Nat → Nat → Option Int} {least : Int} (hT : ∀ (L i : Nat) (n : Int), T L i = some n → -9223372036854775808 ≤ n ∧ n ≤ 9223372036854775807) (L i : Nat) : -((2 : Int) ^ L * 9223372036854775808) ≤ gS T least L i ∧ gS T least L i ≤ (2 : Int) ^ L * 9223372036854775808 := by
  cases L with
  | zero => rw [gS]; simp
  | succ L =>
    have h1 := gW_bd (least := least) hT L (2 * i)
    have h2 := gW_bd (least := least) hT L (2 * i + 1)
    have e : (2 : Int) ^ (L + 1) = 2 * (2 : Int) ^ L := by rw [Int.pow_succ, Int.mul_comm]
    rw [gS, e]
    omega
/-! Who lies within whom. -/
theorem in_split {x : Nat × Nat} {L i : Nat} : inQ x (L + 1, i) = true ↔ x = (L + 1, i) ∨ inQ x (L, 2 * i) = true ∨ inQ x (L, 2 * i + 1) = true := by
  obtain ⟨a, b⟩ := x
  unfold inQ
  simp only [decide_eq_true_eq, Prod.mk.injEq]
  by_cases h : a = L + 1
  · subst h
    simp
    omega
  · by_cases h2 : a ≤ L
    · have e : L + 1 - a = (L - a) + 1 := by omega
      rw [e, Nat.pow_succ, ← Nat.div_div_eq_div_mul]
      generalize b / 2 ^ (L - a) = q
      omega
    · omega
theorem in_apart {x : Nat × Nat} {L i : Nat} (h1 : inQ x (L, 2 * i) = true) (h2 : inQ x (L, 2 * i + 1) = true) : False := by
  have a := of_decide_eq_true h1
  have b := of_decide_eq_true h2
  have e1 := a.2
  have e2 := b.2
  simp only at e1 e2
  omega
theorem in_trans {x y z : Nat × Nat} (h1 : inQ x y = true) (h2 : inQ y z = true) : inQ x z = true := by
  have a := of_decide_eq_true h1
  have b := of_decide_eq_true h2
  refine decide_eq_true ⟨by omega, ?_⟩
  rw [← b.2, ← a.2, Nat.div_div_eq_div_mul, ← Nat.pow_add]
  congr 2
  omega
theorem in_refl (x : Nat × Nat) : inQ x x = true := decide_eq_true ⟨Nat.le_refl _, by rw [Nat.sub_self, Nat.pow_zero, Nat.div_one]⟩
theorem alone_iff {K : List Kp} {k : Nat} {p : Nat × Nat} : aloneQ K k p = true ↔ ∃ x, K[k]? = some x ∧ inQ x.1 p = true ∧ ∀ (m : Nat) (y : Kp), m ≠ k → K[m]? = some y → inQ x.1 y.1 = true → inQ y.1 p = true → False := by
  unfold aloneQ
  cases hx : K[k]? with
  | none => simp
  | some x =>
    simp only [Bool.and_eq_true, List.all_eq_true, Bool.or_eq_true]
    constructor
    · rintro ⟨h1, h2⟩
      refine ⟨x, rfl, h1, fun m y hm hy a b => ?_⟩
      have hlt := (List.getElem?_eq_some_iff.1 hy).1
      rcases h2 m (List.mem_range.2 hlt) with h3 | h3
      · exact hm (by simpa using h3)
      · rw [hy] at h3
        simp only [a, b] at h3
        cases h3
    · rintro ⟨x', e, h1, h2⟩
      injection e with e
      subst e
      refine ⟨h1, fun m hm => ?_⟩
      by_cases hmk : m = k
      · exact .inl (by simpa using hmk)
      · right
        cases hy : K[m]? with
        | none => rfl
        | some y =>
          simp only
          cases a : inQ x.1 y.1 with
          | false => rfl
          | true =>
            cases b : inQ y.1 p with
            | false => rfl
            | true => exact (h2 m y hmk hy a b).elim
theorem sum_add {f g h : Nat → Int} {l : List Nat} (e : ∀ k ∈ l, f k = g k + h k) : (l.map f).sum = (l.map g).sum + (l.map h).sum := by
  induction l with
  | nil => rfl
  | cons a l ih =>
    rw [List.map_cons, List.map_cons, List.map_cons, List.sum_cons, List.sum_cons, List.sum_cons, e a (by simp), ih (fun k hk => e k (List.mem_cons_of_mem _ hk))]
    omega
theorem sum_one {f : Nat → Int} {n k : Nat} (hk : k < n) (h : ∀ j, j < n → j ≠ k → f j = 0) : ((List.range n).map f).sum = f k := by
  induction n with
  | zero => omega
  | succ n ih =>
    rw [List.range_succ, List.map_append, List.sum_append]
    simp only [List.map_cons, List.map_nil, List.sum_cons, List.sum_nil]
    by_cases e : k = n
    · subst e
      rw [sum_zero (fun j hj => h j (by have := List.mem_range.1 hj; omega) (by have := List.mem_range.1 hj; omega))]
      omega
    · rw [ih (by omega) (fun j hj hne => h j (by omega) hne), h n (by omega) (by omega)]
      omega
/-- What lies in a piece that is not kept itself lies in its halves. -/
theorem within_split {K : List Kp} {L i : Nat} (hn : ∀ x ∈ K, x.1 ≠ (L + 1, i)) : withinQ K (L + 1, i) = withinQ K (L, 2 * i) + withinQ K (L, 2 * i + 1) := by
  unfold withinQ
  refine sum_add (fun k _ => ?_)
  have hb : aloneQ K k (L, 2 * i) = true → aloneQ K k (L, 2 * i + 1) = true → False := by
    intro a b
    obtain ⟨x, hx, a1, -⟩ := alone_iff.1 a
    obtain ⟨y, hy, b1, -⟩ := alone_iff.1 b
    rw [hx] at hy
    injection hy with e
    subst e
    exact in_apart a1 b1
  have he : aloneQ K k (L + 1, i) = true ↔ aloneQ K k (L, 2 * i) = true ∨ aloneQ K k (L, 2 * i + 1) = true := by
    constructor
    · intro a
      obtain ⟨x, hx, a1, a2⟩ := alone_iff.1 a
      rcases in_split.1 a1 with e | e | e
      · exact (hn x (List.mem_of_getElem? hx) e).elim
      · exact .inl (alone_iff.2 ⟨x, hx, e, fun m y hm hy c d => a2 m y hm hy c (in_split.2 (.inr (.inl d)))⟩)
      · exact .inr (alone_iff.2 ⟨x, hx, e, fun m y hm hy c d => a2 m y hm hy c (in_split.2 (.inr (.inr d)))⟩)
    · rintro (a | a)
      · obtain ⟨x, hx, a1, a2⟩ := alone_iff.1 a
        refine alone_iff.2 ⟨x, hx, in_split.2 (.inr (.inl a1)), fun m y hm hy c d => ?_⟩
        rcases in_split.1 d with e | e | e
        · exact hn y (List.mem_of_getElem? hy) e
        · exact a2 m y hm hy c e
        · exact in_apart a1 (in_trans c e)
      · obtain ⟨x, hx, a1, a2⟩ := alone_iff.1 a
        refine alone_iff.2 ⟨x, hx, in_split.2 (.inr (.inr a1)), fun m y hm hy c d => ?_⟩
        rcases in_split.1 d with e | e | e
        · exact hn y (List.mem_of_getElem? hy) e
        · exact in_apart (in_trans c e) a1
        · exact a2 m y hm hy c e
  cases ha : aloneQ K k (L, 2 * i) with
  | true =>
    have hc : aloneQ K k (L, 2 * i + 1) = false := by
      cases hc : aloneQ K k (L, 2 * i + 1) with
      | false => rfl
      | true => exact (hb ha hc).elim
    rw [he.2 (.inl ha), hc]
    simp
  | false =>
    cases hc : aloneQ K k (L, 2 * i + 1) with
    | true =>
      rw [he.2 (.inr hc)]
      simp
    | false =>
      have hd : aloneQ K k (L + 1, i) = false := by
        cases hd : aloneQ K k (L + 1, i) with
        | false => rfl
        | true => rcases he.1 hd with h | h
                  · rw [ha] at h; cases h
                  · rw [hc] at h; cases h
      rw [hd]
      simp
/-- A piece that is kept itself stands for all in it. -/
theorem within_self {K : List Kp} (hr : Row K) {x : Kp} (hx : x ∈ K) : withinQ K x.1 = x.2.1 := by
  obtain ⟨k, hk⟩ := List.getElem?_of_mem hx
  have hlt := (List.getElem?_eq_some_iff.1 hk).1
  have hone : ∀ (m : Nat) (y : Kp), K[m]? = some y → y.1 = x.1 → m = k := by
    intro m y hy e
    rcases Nat.lt_trichotomy m k with h | h | h
    · exact ((hr.at hy hk h).2 e).elim
    · exact h
    · exact ((hr.at hk hy h).2 e.symm).elim
  unfold withinQ
  rw [sum_one hlt (fun j hj hne => ?_)]
  · have ha : aloneQ K k x.1 = true := alone_iff.2 ⟨x, hk, in_refl _, fun m y hm hy c d => by
      have h1 := of_decide_eq_true c
      have h2 := of_decide_eq_true d
      exact hm (hone m y hy (in_same d h1.1))⟩
    rw [if_pos ha, numK, hk]
    rfl
  · rw [if_neg]
    intro ha
    obtain ⟨y, hy, a1, a2⟩ := alone_iff.1 ha
    exact a2 k x (fun e => hne e.symm) hk a1 (in_refl _)
/-- Closed upward: within a piece that is not told none is. -/
def Shut (T : Nat → Nat → Option Int) (B : Nat) : Prop := ∀ L i, L + 1 ≤ B → T (L + 1) i = none → T L (2 * i) = none ∧ T L (2 * i + 1) = none
/-- The rows that are kept, up to one level: just those that the closure keeps. -/
structure Upto (T : Nat → Nat → Option Int) (least : Int) (K : List Kp) (L : Nat) : Prop where
  row : Row K
  of : ∀ x ∈ K, x ∈ gTop T least x.1.1 x.1.2
  all : ∀ M j, M ≤ L → ∀ x ∈ gTop T least M j, x ∈ K
theorem mem_gTop {T : Nat → Nat → Option Int} {least : Int} {L i : Nat} {x : Kp} : x ∈ gTop T least L i ↔ ∃ n, T L i = some n ∧ ¬ Wid.f64 (n - gS T least L i) < least ∧ x = ((L, i), n, Wid.f64 (n - gS T least L i)) := by
  unfold gTop
  cases h : T L i with
  | none => simp
  | some n =>
    simp only
    by_cases g : Wid.f64 (n - gS T least L i) < least
    · rw [if_pos g]
      constructor
      · intro h2; cases h2
      · rintro ⟨m, e, h2, -⟩
        injection e with e
        subst e
        exact (h2 g).elim
    · rw [if_neg g]
      constructor
      · intro h2
        exact ⟨n, rfl, g, List.mem_singleton.1 h2⟩
      · rintro ⟨m, e, -, h2⟩
        injection e with e
        subst e
        rw [h2]
        simp
theorem gTop_at {T : Nat → Nat → Option Int} {least : Int} {L i : Nat} {x : Kp} (h : x ∈ gTop T least L i) : x.1 = (L, i) := by
  obtain ⟨n, -, -, rfl⟩ := mem_gTop.1 h
  rfl
theorem within_upto {T : Nat → Nat → Option Int} {least : Int} {B : Nat} (hs : Shut T B) {K : List Kp} : ∀ {L i : Nat}, L ≤ B → Upto T least K L → withinQ K (L, i) = gW T least L i := by
  intro L
  induction L with
  | zero =>
    intro i hLB h
    rw [gW_eq, gOne]
    cases ht : T 0 i with
    | none =>
      simp only
      refine within_key (fun x hx e => ?_)
      have h1 := h.of x hx
      rw [e] at h1
      obtain ⟨n, h2, -⟩ := mem_gTop.1 h1
      rw [ht] at h2
      cases h2
    | some n =>
      simp only
      by_cases g : Wid.f64 (n - gS T least 0 i) < least
      · rw [if_pos g]
        refine within_key (fun x hx e => ?_)
        have h1 := h.of x hx
        rw [e] at h1
        obtain ⟨m, h2, h3, -⟩ := mem_gTop.1 h1
        rw [ht] at h2
        injection h2 with h2
        subst h2
        exact h3 g
      · rw [if_neg g]
        exact within_self h.row (h.all 0 i (Nat.le_refl _) _ (mem_gTop.2 ⟨n, ht, g, rfl⟩))
  | succ L ih =>
    intro i hLB h
    have ih := @ih
    have hL : Upto T least K L := ⟨h.row, h.of, fun M j hM => h.all M j (by omega)⟩
    rw [gW_eq, gOne]
    cases ht : T (L + 1) i with
    | none =>
      simp only
      rw [within_split (fun x hx e => by
        have h1 := h.of x hx
        rw [e] at h1
        obtain ⟨n, h2, -⟩ := mem_gTop.1 h1
        rw [ht] at h2
        cases h2), ih (by omega) hL, ih (by omega) hL, gW_none (hs L i hLB ht).1, gW_none (hs L i hLB ht).2]
      rfl
    | some n =>
      simp only
      by_cases g : Wid.f64 (n - gS T least (L + 1) i) < least
      · rw [if_pos g, within_split (fun x hx e => by
          have h1 := h.of x hx
          rw [e] at h1
          obtain ⟨m, h2, h3, -⟩ := mem_gTop.1 h1
          rw [ht] at h2
          injection h2 with h2
          subst h2
          exact h3 g), ih (by omega) hL, ih (by omega) hL]
        rfl
      · rw [if_neg g]
        exact within_self h.row (h.all (L + 1) i (Nat.le_refl _) _ (mem_gTop.2 ⟨n, ht, g, rfl⟩))
/-- What is kept within a piece ahead of its own turn. -/
theorem within_turn {T : Nat → Nat → Option Int} {least : Int} {B : Nat} (hs : Shut T B) {K : List Kp} {L i : Nat} (hr : Row K) (hof : ∀ x ∈ K, x ∈ gTop T least x.1.1 x.1.2) (hall : ∀ M j, M < L → ∀ x ∈ gTop T least M j, x ∈ K) (hLB : L ≤ B) (hn : ∀ x ∈ K, x.1 ≠ (L, i)) : withinQ K (L, i) = gS T least L i := by
  cases L with
  | zero => rw [gS]; exact within_key hn
  | succ L =>
    have h : Upto T least K L := ⟨hr, hof, fun M j hM => hall M j (by omega)⟩
    rw [within_split hn, gS, within_upto hs (by omega) h, within_upto hs (by omega) h]
/-! The row that is gone through. -/
def keepQ (T : Nat → Nat → Option Int) (least : Int) (o : List ((Nat × Nat) × Int)) : List Kp := o.flatMap (fun q => gTop T least q.1.1 q.1.2)
structure Ord (T : Nat → Nat → Option Int) (B : Nat) (o : List ((Nat × Nat) × Int)) : Prop where
  row : o.Pairwise (fun x y => x.1.1 ≤ y.1.1 ∧ x.1 ≠ y.1)
  le : ∀ q ∈ o, q.1.1 ≤ B
  mem : ∀ q : (Nat × Nat) × Int, q ∈ o ↔ T q.1.1 q.1.2 = some q.2
theorem keep_row {T : Nat → Nat → Option Int} {least : Int} {o : List ((Nat × Nat) × Int)} (h : o.Pairwise (fun x y => x.1.1 ≤ y.1.1 ∧ x.1 ≠ y.1)) : Row (keepQ T least o) := by
  unfold Row keepQ
  rw [List.pairwise_flatMap]
  constructor
  · intro q _
    unfold gTop
    cases T q.1.1 q.1.2 with
    | none => exact List.Pairwise.nil
    | some n =>
      simp only
      split
      · exact List.Pairwise.nil
      · exact List.pairwise_singleton _ _
  · refine List.Pairwise.imp ?_ h
    intro a b hab x hx y hy
    rw [gTop_at hx, gTop_at hy]
    exact hab
theorem hier_go {T : Nat → Nat → Option Int} {least : Int} {B : Nat} (hs : Shut T B) {o : List ((Nat × Nat) × Int)} (ho : Ord T B o) : ∀ (l P : List ((Nat × Nat) × Int)), P ++ l = o →
    hierF least l (keepQ T least P) = if l.all (fun q => Wid.fit64 (q.2 - gS T least q.1.1 q.1.2)) = true then some (keepQ T least o) else none
  | [], P, e => by
    rw [List.append_nil] at e
    subst e
    rfl
  | q :: l, P, e => by
    have ih := hier_go (least := least) hs ho l (P ++ [q]) (by rw [List.append_assoc, List.singleton_append]; exact e)
    have hrow := ho.row
    rw [← e, List.pairwise_append] at hrow
    obtain ⟨r1, r2, r3⟩ := hrow
    rw [List.pairwise_cons] at r2
    have hT : T q.1.1 q.1.2 = some q.2 := (ho.mem q).1 (by rw [← e]; simp)
    have hw : withinQ (keepQ T least P) (q.1.1, q.1.2) = gS T least q.1.1 q.1.2 := by
      refine within_turn hs (keep_row r1) (fun x hx => ?_) (fun M j hM x hx => ?_) (ho.le q (by rw [← e]; simp)) (fun x hx h => ?_)
      · obtain ⟨p, _, h2⟩ := List.mem_flatMap.1 hx
        have h3 := gTop_at h2
        rw [h3]
        exact h2
      · obtain ⟨n, h2, -⟩ := mem_gTop.1 hx
        have h3 : (((M, j), n) : (Nat × Nat) × Int) ∈ o := (ho.mem _).2 h2
        rw [← e] at h3
        refine List.mem_flatMap.2 ⟨((M, j), n), ?_, hx⟩
        rcases List.mem_append.1 h3 with h4 | h4
        · exact h4
        · rcases List.mem_cons.1 h4 with h5 | h5
          · rw [← h5] at hM
            exact absurd hM (Nat.lt_irrefl _)
          · have := (r2.1 _ h5).1
            simp only at this
            omega
      · obtain ⟨p, h1, h2⟩ := List.mem_flatMap.1 hx
        have h3 := gTop_at h2
        exact (r3 p h1 q (by simp)).2 (by rw [h3] at h; exact h)
    have hrest : restQ (keepQ T least P) q = q.2 - gS T least q.1.1 q.1.2 := by
      unfold restQ
      rw [← hw]
    rw [hierF, hrest, List.all_cons]
    by_cases hf : Wid.fit64 (q.2 - gS T least q.1.1 q.1.2) = true
    · have hc : Wid.f64 (q.2 - gS T least q.1.1 q.1.2) = q.2 - gS T least q.1.1 q.1.2 := by
        unfold Wid.f64
        rw [if_pos hf]
      rw [if_pos hf, hf, Bool.true_and, ← ih]
      congr 1
      have e2 : keepQ T least (P ++ [q]) = keepQ T least P ++ gTop T least q.1.1 q.1.2 := by
        unfold keepQ
        rw [List.flatMap_append]
        simp
      rw [e2, gTop, hT]
      simp only
      rw [hc]
      by_cases hl : least ≤ q.2 - gS T least q.1.1 q.1.2
      · rw [if_pos hl, if_neg (by omega)]
      · rw [if_neg hl, if_pos (by omega), List.append_nil]
    · rw [if_neg hf]
      have hf2 : Wid.fit64 (q.2 - gS T least q.1.1 q.1.2) = false := by simpa using hf
      rw [hf2, Bool.false_and]
      rfl
/-! What is told of a stack. -/
theorem told_some {pt : Nat → Int → Int} {least : Int} {B L i : Nat} {n : Int} : toldQ pt least B L i = some n ↔ L ≤ B ∧ i ∈ askQ pt least B (B - L) ∧ least ≤ pt L ((i : Nat) : Int) ∧ n = pt L ((i : Nat) : Int) := by
  unfold toldQ
  by_cases h : L ≤ B ∧ i ∈ askQ pt least B (B - L) ∧ least ≤ pt L ((i : Nat) : Int)
  · rw [if_pos h]
    constructor
    · intro e
      injection e with e
      exact ⟨h.1, h.2.1, h.2.2, e.symm⟩
    · rintro ⟨-, -, -, rfl⟩
      rfl
  · rw [if_neg h]
    constructor
    · intro e; cases e
    · rintro ⟨a, b, c, -⟩
      exact (h ⟨a, b, c⟩).elim
theorem told_shut (pt : Nat → Int → Int) (least : Int) (B : Nat) : Shut (toldQ pt least B) B := by
  intro L i hL h
  have e : B - L = (B - (L + 1)) + 1 := by omega
  have e2 : B - (B - (L + 1)) = L + 1 := by omega
  have hno : ∀ j : Nat, j / 2 = i → toldQ pt least B L j = none := by
    intro j hj
    cases h2 : toldQ pt least B L j with
    | none => rfl
    | some n =>
      obtain ⟨h3, h4, h5, -⟩ := told_some.1 h2
      rw [e] at h4
      obtain ⟨h6, h7⟩ := mem_halvesQ.1 h4
      rw [e2, hj] at h7
      rw [hj] at h6
      have := told_some.2 ⟨hL, h6, h7, rfl⟩
      rw [h] at this
      cases this
  exact ⟨hno _ (by omega), hno _ (by omega)⟩
theorem told_ord (pt : Nat → Int → Int) (least : Int) (B : Nat) : Ord (toldQ pt least B) B (orderQ B (foundQ pt least B (B + 1))) := by
  refine ⟨orderQ_row (foundQ_row pt least B (B + 1) (Nat.le_refl _)), fun q hq => (mem_orderQ.1 hq).2, fun q => ?_⟩
  rw [mem_orderQ, mem_foundQ, told_some]
  constructor
  · rintro ⟨⟨e, h1, h2, h3, h4, h5⟩, h6⟩
    have e1 : B - (B - e) = e := by omega
    rw [h2, e1]
    exact ⟨by omega, h3, h4, h5⟩
  · rintro ⟨h1, h2, h3, h4⟩
    have e1 : B - (B - q.1.1) = q.1.1 := by omega
    exact ⟨⟨B - q.1.1, by omega, by omega, h2, by rw [e1]; exact h3, by rw [e1]; exact h4⟩, h1⟩
theorem found_level (pt : Nat → Int → Int) (least : Int) {B M : Nat} (hM : M ≤ B) : ∀ D : Nat, D ≤ B + 1 → (foundQ pt least B D).filter (fun q => decide (q.1.1 = M)) = if B - M < D then tellQ pt least M (askQ pt least B (B - M)) else []
  | 0, _ => by rw [if_neg (by omega)]; rfl
  | D + 1, hD => by
    have ih := found_level pt least hM D (by omega)
    show (foundQ pt least B D ++ tellQ pt least (B - D) (askQ pt least B D)).filter _ = _
    rw [List.filter_append, ih]
    by_cases h : D = B - M
    · have e : B - D = M := by omega
      rw [if_neg (by omega), if_pos (by omega), e, h, List.nil_append]
      refine List.filter_eq_self.2 (fun q hq => ?_)
      exact decide_eq_true (mem_tellQ.1 hq).1
    · have e2 : (tellQ pt least (B - D) (askQ pt least B D)).filter (fun q => decide (q.1.1 = M)) = [] := by
        refine List.filter_eq_nil_iff.2 (fun q hq => ?_)
        rw [(mem_tellQ.1 hq).1]
        simp
        omega
      rw [e2, List.append_nil]
      by_cases h2 : B - M < D
      · rw [if_pos h2, if_pos (by omega)]
      · rw [if_neg h2, if_neg (by omega)]
theorem flat_congr {α β : Type} {f g : α → List β} : ∀ {l : List α}, (∀ x ∈ l, f x = g x) → l.flatMap f = l.flatMap g
  | [], _ => rfl
  | a :: l, h => by rw [List.flatMap_cons, List.flatMap_cons, h a (by simp), flat_congr (fun x hx => h x (List.mem_cons_of_mem _ hx))]
theorem flat_filter {α β : Type} {f : α → Bool} {g : α → List β} : ∀ {l : List α}, (∀ x ∈ l, f x = false → g x = []) → (l.filter f).flatMap g = l.flatMap g
  | [], _ => rfl
  | a :: l, h => by
    have ih := flat_filter (f := f) (g := g) (l := l) (fun x hx => h x (List.mem_cons_of_mem _ hx))
    by_cases e : f a = true
    · rw [List.filter_cons_of_pos e, List.flatMap_cons, List.flatMap_cons, ih]
    · rw [List.filter_cons_of_neg e, List.flatMap_cons, ih, h a (by simp) (by simpa using e), List.nil_append]
theorem tell_top (pt : Nat → Int → Int) (least : Int) {B M : Nat} (row : List Nat) : (tellQ pt least M row).flatMap (fun q => gTop (toldQ pt least B) least q.1.1 q.1.2) = row.flatMap (fun i => gTop (toldQ pt least B) least M i) := by
  unfold tellQ
  rw [List.flatMap_map]
  refine flat_filter (fun i hi h => ?_)
  have hn : toldQ pt least B M i = none := by
    cases h2 : toldQ pt least B M i with
    | none => rfl
    | some n =>
      have h3 := (told_some.1 h2).2.2.1
      unfold big at h
      exact absurd h3 (of_decide_eq_false h)
  unfold gTop
  rw [hn]
theorem gL_deep (pt : Nat → Int → Int) (least : Int) {B M : Nat} (hM : M ≤ B) : ∀ d : Nat, d ≤ B - M → gL (toldQ pt least B) least B 0 M = (askQ pt least B d).flatMap (fun i => gL (toldQ pt least B) least (B - d) i M)
  | 0, _ => by
    show _ = [0].flatMap _
    simp
  | d + 1, hd => by
    rw [gL_deep pt least hM d (by omega)]
    obtain ⟨L, hL⟩ : ∃ L, B - d = L + 1 := ⟨B - d - 1, by omega⟩
    have hL2 : B - (d + 1) = L := by omega
    have e2 : B - (L + 1) = d := by omega
    show _ = (halvesQ pt least (B - d) (askQ pt least B d)).flatMap _
    unfold halvesQ
    rw [List.flatMap_assoc, hL, hL2]
    have e3 : ∀ i ∈ askQ pt least B d, gL (toldQ pt least B) least (L + 1) i M = if big pt least (L + 1) i = true then gL (toldQ pt least B) least L (2 * i) M ++ gL (toldQ pt least B) least L (2 * i + 1) M else [] := by
      intro i hi
      by_cases hb : big pt least (L + 1) i = true
      · rw [if_pos hb, gL, told_some.2 ⟨by omega, by rw [e2]; exact hi, of_decide_eq_true hb, rfl⟩]
        simp only
        rw [if_neg (by omega), List.append_nil]
      · rw [if_neg hb]
        refine gL_none ?_ M
        cases h2 : toldQ pt least B (L + 1) i with
        | none => rfl
        | some n => exact absurd (decide_eq_true (told_some.1 h2).2.2.1) hb
    rw [← flat_filter (f := big pt least (L + 1)) (l := askQ pt least B d) (fun i hi h => by rw [e3 i hi, if_neg (by rw [h]; decide)])]
    refine flat_congr (fun i hi => ?_)
    obtain ⟨h1, h2⟩ := List.mem_filter.1 hi
    rw [e3 i h1, if_pos h2]
    simp
/-- What the closure keeps, level by level, is what is kept of the row. -/
theorem keep_levels (pt : Nat → Int → Int) (least : Int) (B : Nat) : keepQ (toldQ pt least B) least (orderQ B (foundQ pt least B (B + 1))) = (List.range (B + 1)).flatMap (fun M => gL (toldQ pt least B) least B 0 M) := by
  unfold keepQ orderQ
  rw [List.flatMap_assoc]
  refine flat_congr (fun M hM => ?_)
  have hM2 : M ≤ B := by have := List.mem_range.1 hM; omega
  have e : B - (B - M) = M := by omega
  rw [found_level pt least hM2 (B + 1) (Nat.le_refl _), if_pos (by omega), tell_top, gL_deep pt least hM2 (B - M) (Nat.le_refl _), e]
  exact flat_congr (fun i _ => (gL_self M i).symm)
theorem gF_all {T : Nat → Nat → Option Int} {least : Int} (h : ∀ L i n, T L i = some n → Wid.fit64 (n - gS T least L i) = true) : ∀ L i, gF T least L i = true
  | 0, i => by
    cases ht : T 0 i with
    | none => exact gF_none ht
    | some n =>
      have := h 0 i n ht
      rw [gS, Int.sub_zero] at this
      rw [gF, ht]
      exact this
  | L + 1, i => by
    cases ht : T (L + 1) i with
    | none => exact gF_none ht
    | some n =>
      rw [gF, ht]
      simp only
      rw [gF_all h L, gF_all h L, h (L + 1) i n ht]
      rfl
theorem gF_down (pt : Nat → Int → Int) (least : Int) {B : Nat} (h : gF (toldQ pt least B) least B 0 = true) : ∀ d : Nat, d ≤ B → ∀ i ∈ askQ pt least B d, gF (toldQ pt least B) least (B - d) i = true
  | 0, _, i, hi => by
    have : i = 0 := List.mem_singleton.1 hi
    subst this
    exact h
  | d + 1, hd, i, hi => by
    obtain ⟨h1, h2⟩ := mem_halvesQ.1 hi
    have ih := gF_down pt least h d (by omega) _ h1
    obtain ⟨L, hL⟩ : ∃ L, B - d = L + 1 := ⟨B - d - 1, by omega⟩
    have hL2 : B - (d + 1) = L := by omega
    have e2 : B - (L + 1) = d := by omega
    rw [hL] at ih h2
    rw [hL2]
    rw [gF, told_some.2 ⟨by omega, by rw [e2]; exact h1, h2, rfl⟩] at ih
    simp only [Bool.and_eq_true] at ih
    have e3 : i = 2 * (i / 2) ∨ i = 2 * (i / 2) + 1 := by omega
    rcases e3 with e3 | e3
    · rw [e3]; exact ih.1.1
    · rw [e3]; exact ih.1.2
theorem gF_fit {T : Nat → Nat → Option Int} {least : Int} {L i : Nat} {n : Int} (h : T L i = some n) (hg : gF T least L i = true) : Wid.fit64 (n - gS T least L i) = true := by
  cases L with
  | zero =>
    rw [gF, h] at hg
    rw [gS, Int.sub_zero]
    exact hg
  | succ L =>
    rw [gF, h] at hg
    simp only [Bool.and_eq_true] at hg
    exact hg.2
/-- What is kept, by what the closure gathers. -/
theorem gat_hier (pt : Nat → Int → Int) (least : Int) (B : Nat) :
    hierF least (orderQ B (foundQ pt least B (B + 1))) [] = if gF (toldQ pt least B) least B 0 = true then some ((List.range (B + 1)).flatMap (fun M => gL (toldQ pt least B) least B 0 M)) else none := by
  have ho := told_ord pt least B
  have h := hier_go (least := least) (told_shut pt least B) ho _ [] (List.nil_append _)
  have e0 : keepQ (toldQ pt least B) least [] = [] := rfl
  rw [e0] at h
  rw [h, keep_levels]
  have e : (orderQ B (foundQ pt least B (B + 1))).all (fun q => Wid.fit64 (q.2 - gS (toldQ pt least B) least q.1.1 q.1.2)) = gF (toldQ pt least B) least B 0 := by
    rw [Bool.eq_iff_iff, List.all_eq_true]
    constructor
    · intro g
      exact gF_all (fun L i n ht => g ((L, i), n) ((ho.mem _).2 ht)) B 0
    · intro g q hq
      have ht := (ho.mem q).1 hq
      obtain ⟨h1, h2, -⟩ := told_some.1 ht
      have h3 := gF_down pt least g (B - q.1.1) (by omega) _ h2
      have e1 : B - (B - q.1.1) = q.1.1 := by omega
      rw [e1] at h3
      exact gF_fit ht h3
  rw [e]
end Go.Proofs.YtmdkdjgamhaeoaaGreat.Hvy
/- In which order what is told stands; that in which it lies stands ahead of it; how many were asked. By hand. -/
namespace Go.Proofs.YtmdkdjgamhaeoaaGreat.Hvy
open Go Go.RowKit Lw Grd Lin Con Shp Sk Exa Lev Stk Pcs Spn Qnt
set_option linter.unusedVariables false
def Ahead (x y : (Nat × Nat) × Int) : Prop := y.1.1 < x.1.1 ∨ (x.1.1 = y.1.1 ∧ x.1.2 < y.1.2)
theorem foundQ_ahead (pt : Nat → Int → Int) (least : Int) (B : Nat) : ∀ d : Nat, d ≤ B + 1 → (foundQ pt least B d).Pairwise Ahead
  | 0, _ => List.Pairwise.nil
  | d + 1, hd => by
    show (foundQ pt least B d ++ tellQ pt least (B - d) (askQ pt least B d)).Pairwise _
    rw [List.pairwise_append]
    refine ⟨foundQ_ahead pt least B d (by omega), ?_, fun x hx y hy => ?_⟩
    · unfold tellQ
      rw [List.pairwise_map]
      exact ((askQ_rises pt least B d).filter _).imp (fun h => .inr ⟨rfl, h⟩)
    · obtain ⟨e, he, h1, -⟩ := mem_foundQ.1 hx
      obtain ⟨h2, -⟩ := mem_tellQ.1 hy
      exact .inl (by omega)
theorem ahead_at {l : List ((Nat × Nat) × Int)} (h : l.Pairwise Ahead) {i j : Nat} {x y : (Nat × Nat) × Int} (hi : l[i]? = some x) (hj : l[j]? = some y) (hij : i < j) : Ahead x y := by
  obtain ⟨h1, rfl⟩ := List.getElem?_eq_some_iff.1 hi
  obtain ⟨h2, rfl⟩ := List.getElem?_eq_some_iff.1 hj
  exact List.pairwise_iff_getElem.1 h i j h1 h2 hij
/-- Each of what is told: where it lies, and what is told of it. -/
theorem found_at {pt : Nat → Int → Int} {least : Int} {B d i : Nat} {q : (Nat × Nat) × Int} (hd : d ≤ B + 1) (h : (foundQ pt least B d)[i]? = some q) : q.1.1 ≤ B ∧ q.1.2 < 2 ^ (B - q.1.1) ∧ least ≤ q.2 ∧ q.2 = pt q.1.1 ((q.1.2 : Nat) : Int) := by
  obtain ⟨e, he, h1, h2, h3, h4⟩ := mem_foundQ.1 (List.mem_of_getElem? h)
  have h5 := askQ_lt h2
  rw [h1, h4]
  refine ⟨by omega, ?_, h3, rfl⟩
  rw [show B - (B - e) = e by omega]
  exact h5
/-- That in which it lies stands ahead of it. -/
theorem found_above {pt : Nat → Int → Int} {least : Int} {B i : Nat} {q : (Nat × Nat) × Int} (h : (foundQ pt least B (B + 1))[i]? = some q) (hq : q.1.1 ≠ B) : ∃ (k : Nat) (v : Int), k < i ∧ (foundQ pt least B (B + 1))[k]? = some ((q.1.1 + 1, q.1.2 / 2), v) := by
  obtain ⟨e, he, h1, h2, h3, h4⟩ := mem_foundQ.1 (List.mem_of_getElem? h)
  cases e with
  | zero => exact absurd (by omega) hq
  | succ e =>
    obtain ⟨g1, g2⟩ := mem_halvesQ.1 h2
    have h6 : ((q.1.1 + 1, q.1.2 / 2), pt (B - e) ((q.1.2 / 2 : Nat) : Int)) ∈ foundQ pt least B (B + 1) := by
      refine mem_foundQ.2 ⟨e, by omega, ?_, g1, g2, rfl⟩
      show q.1.1 + 1 = B - e
      omega
    obtain ⟨k, hk⟩ := List.getElem?_of_mem h6
    refine ⟨k, _, ?_, hk⟩
    by_cases hki : k < i
    · exact hki
    · exfalso
      by_cases e2 : k = i
      · subst e2
        rw [h] at hk
        injection hk with hk
        have : q.1.1 = q.1.1 + 1 := by
          have := congrArg (fun x => x.1.1) hk
          exact this
        omega
      · have h7 := ahead_at (foundQ_ahead pt least B (B + 1) (Nat.le_refl _)) h hk (by omega)
        rcases h7 with h7 | h7
        · have : q.1.1 + 1 < q.1.1 := h7
          omega
        · have : q.1.1 = q.1.1 + 1 := h7.1
          omega
/-- How many of them are no keys. -/
def upsQ (l : List ((Nat × Nat) × Int)) : Nat := (l.filter (fun q => decide (0 < q.1.1))).length
theorem upsQ_found (pt : Nat → Int → Int) (least : Int) (B : Nat) : 1 + 2 * upsQ (foundQ pt least B (B + 1)) = countQ pt least B (B + 1) := by
  rw [countQ_found]
  have e : upsQ (foundQ pt least B (B + 1)) = (foundQ pt least B B).length := by
    unfold upsQ
    show ((foundQ pt least B B ++ tellQ pt least (B - B) (askQ pt least B B)).filter _).length = _
    rw [List.filter_append, List.length_append]
    have e1 : (foundQ pt least B B).filter (fun q => decide (0 < q.1.1)) = foundQ pt least B B := by
      refine List.filter_eq_self.2 (fun q hq => ?_)
      obtain ⟨e, he, h1, -⟩ := mem_foundQ.1 hq
      exact decide_eq_true (by omega)
    have e2 : (tellQ pt least (B - B) (askQ pt least B B)).filter (fun q => decide (0 < q.1.1)) = [] := by
      refine List.filter_eq_nil_iff.2 (fun q hq => ?_)
      obtain ⟨h1, -⟩ := mem_tellQ.1 hq
      rw [decide_eq_true_iff]
      omega
    rw [e1, e2]
    rfl
  rw [e]
theorem upsQ_le (l : List ((Nat × Nat) × Int)) : upsQ l ≤ l.length := List.length_filter_le _ _
theorem upsQ_next {l : List ((Nat × Nat) × Int)} {i : Nat} {q : (Nat × Nat) × Int} (h : l[i]? = some q) : upsQ (l.take (i + 1)) = upsQ (l.take i) + (if 0 < q.1.1 then 1 else 0) := by
  obtain ⟨h1, h2⟩ := List.getElem?_eq_some_iff.1 h
  rw [List.take_succ_eq_append_getElem h1, h2]
  unfold upsQ
  rw [List.filter_append, List.length_append]
  congr 1
  by_cases h3 : 0 < q.1.1
  · rw [if_pos h3]
    simp [h3]
  · rw [if_neg h3]
    simp [h3]
theorem foundQ_len (pt : Nat → Int → Int) (least : Int) (B : Nat) : (foundQ pt least B (B + 1)).length ≤ countQ pt least B (B + 1) := by
  have h : ∀ d : Nat, (foundQ pt least B d).length ≤ countQ pt least B d := by
    intro d
    induction d with
    | zero => exact Nat.le_refl _
    | succ d ih =>
      show (foundQ pt least B d ++ tellQ pt least (B - d) (askQ pt least B d)).length ≤ countQ pt least B d + (askQ pt least B d).length
      rw [List.length_append]
      have h2 : (tellQ pt least (B - d) (askQ pt least B d)).length ≤ (askQ pt least B d).length := by
        unfold tellQ
        rw [List.length_map]
        exact List.length_filter_le _ _
      omega
  exact h (B + 1)
end Go.Proofs.YtmdkdjgamhaeoaaGreat.Hvy
/- An array of sixty pieces, of which the first are laid. By hand. -/
namespace Go.Proofs.YtmdkdjgamhaeoaaGreat.Qnt
open Go Go.RowKit Lw
set_option linter.unusedVariables false
/-- The j-th cell of the array whose first pieces are these. -/
def celP (ps : List (Nat × Nat)) (j : Nat) : Value := if j % 2 = 0 then .int .i64 ((((ps[j / 2]?).map (fun p => p.1)).getD 0 : Nat) : Int) else .int .u64 ((((ps[j / 2]?).map (fun p => p.2)).getD 0 : Nat) : Int)
def arrP (ps : List (Nat × Nat)) : Array Value := ((List.range 120).map (celP ps)).toArray
end Go.Proofs.YtmdkdjgamhaeoaaGreat.Qnt
/- add of layer 16's laws; the low bits of a number. Printed by wip/gen/spn8.py. -/
namespace Go.Proofs.YtmdkdjgamhaeoaaGreat.Spn
open Go Go.RowKit Lw Grd Lin Con Shp Sk Exa Lev Stk Pcs
set_option linter.unusedVariables false
set_option linter.unusedSimpArgs false
theorem and_low (a : Int) (m : Nat) (hm : m < 4611686018427387904) : ∃ v : Nat, v ≤ m ∧ bits .and .i64 a (m : Int) = (v : Int) := by
  refine ⟨(BitVec.ofInt 64 a &&& BitVec.ofInt 64 (m : Int)).toNat, ?_, ?_⟩
  · rw [BitVec.toNat_and]
    have h : (BitVec.ofInt 64 (m : Int)).toNat = m := by
      rw [BitVec.toNat_ofInt]
      omega
    rw [h]
    exact Nat.and_le_right
  · rw [and_i64, BitVec.toInt_eq_toNat_cond]
    have h : (BitVec.ofInt 64 a &&& BitVec.ofInt 64 (m : Int)).toNat ≤ m := by
      rw [BitVec.toNat_and]
      have h : (BitVec.ofInt 64 (m : Int)).toNat = m := by
        rw [BitVec.toNat_ofInt]
        omega
      rw [h]
      exact Nat.and_le_right
    rw [if_pos (by omega)]
end Go.Proofs.YtmdkdjgamhaeoaaGreat.Spn
/- The document's Cut of layer 15. Printed by wip/gen/stk.py. -/
namespace Go.Proofs.YtmdkdjgamhaeoaaGreat.Stk
open Go Go.RowKit Lw Grd Lin Con Shp Sk Exa Lev
set_option linter.unusedVariables false
set_option linter.unusedSimpArgs false
set_option maxRecDepth 100000 in
set_option maxHeartbeats 4000000 in
theorem rcut15_any (c : Cfg) (k d : Int) (w : World) (h : c.Ok) (k0 : 0 ≤ k) (k1 : k ≤ 18446744073709551615) (d0 : -9223372036854775808 ≤ d) (d1 : d ≤ 9223372036854775807) (hK : 1 ≤ keys c 0) :
    Calls Tryz.prog 26 #[.agg #[.int .i64 c.bt, .int .i64 c.rw, .int .i64 c.wd, .int .i64 c.md, .int .u64 c.sd], .agg #[.int .u64 k, .int .i64 d]] w fun e w' => e = .returned (.agg #[.int .u64 (cutU c 0 (k, d)).1, .int .i64 (cutU c 0 (k, d)).2]) ∧ Below w.heap.size w w' := by
  have HO := Lib.hid h
  obtain ⟨K, hKK⟩ : ∃ K, keys c 0 = K := ⟨_, rfl⟩
  have CK := Lib.hid (fun w => rkeys_any c 0 w h (by omega) (by omega))
  rw [hKK] at CK hK
  obtain ⟨r1, r2, r3⟩ := rem_key k K k0 k1 hK
  have hKn : ¬ K = 0 := by omega
  have h1 := tmod_bd d
  obtain ⟨t, ht⟩ : ∃ t, Int.tmod d 1099511627776 = t := ⟨_, rfl⟩
  have hdv : (cutU c 0 (k, d)).2 = if c.md = 2 ∧ t < 0 then -t else t := by
    unfold cutU dv
    simp only [decide_eq_true_eq, ht]
    split <;> split <;> first | rfl | omega
  have hck : (cutU c 0 (k, d)).1 = k % K := by unfold cutU; rw [hKK]
  obtain ⟨R, hR⟩ : ∃ R, k % K = R := ⟨_, rfl⟩
  rw [hR] at r1 r2 r3 hck
  rw [hck]
  rw [ht] at h1
  obtain ⟨D, hD⟩ : ∃ D, (cutU c 0 (k, d)).2 = D := ⟨_, rfl⟩
  rw [hD] at hdv ⊢
  clear hKK hck hR hD h
  have go : ∀ b : Bool, (c.md == 2) = b → ∀ (s : Bool), decide (t < 0) = s → D = (if b = true ∧ s = true then -t else t) → Calls Tryz.prog 26 #[.agg #[.int .i64 c.bt, .int .i64 c.rw, .int .i64 c.wd, .int .i64 c.md, .int .u64 c.sd], .agg #[.int .u64 k, .int .i64 d]] w fun e w' => e = .returned (.agg #[.int .u64 R, .int .i64 D]) ∧ Below w.heap.size w w' := by
    clear hdv
    intro b hb s hs hd
    have HD := Lib.hid hd
    clear hd
    have hts : (s = true ∧ t < 0 ∧ t ≤ -t) ∨ (s = false ∧ 0 ≤ t ∧ -t ≤ t) := by
      cases s with
      | true => left; have := of_decide_eq_true hs; exact ⟨rfl, this, by omega⟩
      | false => right; have := of_decide_eq_false hs; exact ⟨rfl, by omega, by omega⟩
    clear hs
    cases b with
    | false =>
      go_enter Tryz.func26, Tryz.ntmps26
      go_wp2
      go_region_held3 (fun w' => w'.cell? ⟨w.heap.size, 0, none⟩ = some (.int .i64 c.bt) ∧ w'.cell? ⟨w.heap.size, 1, none⟩ = some (.int .i64 c.rw) ∧ w'.cell? ⟨w.heap.size, 2, none⟩ = some (.int .i64 c.wd) ∧ w'.cell? ⟨w.heap.size, 3, none⟩ = some (.int .i64 c.md) ∧ w'.cell? ⟨w.heap.size, 4, none⟩ = some (.int .u64 c.sd) ∧ w'.cell? ⟨w.heap.size + 1, 0, none⟩ = some (.int .u64 k)) (simp [go_sem]) (first | (go_at_call 39; (with_reducible refine (CK.out _).mono ?_); rintro e w' ⟨rfl, hb⟩; obtain ⟨bs, dd, rfl⟩ := below_grow hb; clear hb))
      go_wp2
      go_returns
      exact ⟨by rw [HD.out]; rfl, (by repeat' (first | (with_reducible exact Below.refl _ _) | (with_reducible assumption) | (with_reducible refine below_over ?_ _ _) | (with_reducible refine Lw.below_alloc ?_ _) | (with_reducible refine Below.drew ?_) | (with_reducible refine below_drewN ?_ _) | (with_reducible refine Below.setCell ?_ ?_ _) | go_size))⟩
    | true =>
      rcases hts with ⟨rfl, ht0, ht1⟩ | ⟨rfl, ht0, ht1⟩
      · skip
        go_enter Tryz.func26, Tryz.ntmps26
        go_wp2
        go_region_held3 (fun w' => w'.cell? ⟨w.heap.size, 0, none⟩ = some (.int .i64 c.bt) ∧ w'.cell? ⟨w.heap.size, 1, none⟩ = some (.int .i64 c.rw) ∧ w'.cell? ⟨w.heap.size, 2, none⟩ = some (.int .i64 c.wd) ∧ w'.cell? ⟨w.heap.size, 3, none⟩ = some (.int .i64 c.md) ∧ w'.cell? ⟨w.heap.size, 4, none⟩ = some (.int .u64 c.sd) ∧ w'.cell? ⟨w.heap.size + 1, 0, none⟩ = some (.int .u64 k)) (simp [go_sem]) (first | (go_at_call 39; (with_reducible refine (CK.out _).mono ?_); rintro e w' ⟨rfl, hb⟩; obtain ⟨bs, dd, rfl⟩ := below_grow hb; clear hb))
        go_wp2
        go_returns
        exact ⟨by rw [HD.out]; rfl, (by repeat' (first | (with_reducible exact Below.refl _ _) | (with_reducible assumption) | (with_reducible refine below_over ?_ _ _) | (with_reducible refine Lw.below_alloc ?_ _) | (with_reducible refine Below.drew ?_) | (with_reducible refine below_drewN ?_ _) | (with_reducible refine Below.setCell ?_ ?_ _) | go_size))⟩
      · skip
        go_enter Tryz.func26, Tryz.ntmps26
        go_wp2
        go_region_held3 (fun w' => w'.cell? ⟨w.heap.size, 0, none⟩ = some (.int .i64 c.bt) ∧ w'.cell? ⟨w.heap.size, 1, none⟩ = some (.int .i64 c.rw) ∧ w'.cell? ⟨w.heap.size, 2, none⟩ = some (.int .i64 c.wd) ∧ w'.cell? ⟨w.heap.size, 3, none⟩ = some (.int .i64 c.md) ∧ w'.cell? ⟨w.heap.size, 4, none⟩ = some (.int .u64 c.sd) ∧ w'.cell? ⟨w.heap.size + 1, 0, none⟩ = some (.int .u64 k)) (simp [go_sem]) (first | (go_at_call 39; (with_reducible refine (CK.out _).mono ?_); rintro e w' ⟨rfl, hb⟩; obtain ⟨bs, dd, rfl⟩ := below_grow hb; clear hb))
        go_wp2
        go_returns
        exact ⟨by rw [HD.out]; rfl, (by repeat' (first | (with_reducible exact Below.refl _ _) | (with_reducible assumption) | (with_reducible refine below_over ?_ _ _) | (with_reducible refine Lw.below_alloc ?_ _) | (with_reducible refine Below.drew ?_) | (with_reducible refine below_drewN ?_ _) | (with_reducible refine Below.setCell ?_ ?_ _) | go_size))⟩
  refine go (c.md == 2) rfl (decide (t < 0)) rfl ?_
  rw [hdv]
  simp

end Go.Proofs.YtmdkdjgamhaeoaaGreat.Stk
/- The document's Has: what the keys of a prefix have. Printed by wip/gen/stk3.py. -/
namespace Go.Proofs.YtmdkdjgamhaeoaaGreat.Stk
open Go Go.RowKit Lw Grd Lin Con Shp Sk Exa Lev
set_option linter.unusedVariables false
set_option linter.unusedSimpArgs false
theorem lt_sz {a b : Nat} (h : a < b) (x : Nat) : a < b + x := by omega
theorem shr_at {U : Int} {n : Nat} (hn : n ≤ 63) : U / 2 ^ min n 64 = upK U n := by
  unfold upK
  rw [Nat.min_eq_left (by omega)]
  simp
theorem upN_snoc (us : Ups) (u : Int × Int) (n : Nat) (i : Int) : hasK i (upN (us ++ [u]) n) = hasK i (upN us n) + (if upK u.1 n = i then u.2 else 0) := by
  rw [upN_app, hasK_app]
  congr 1
  exact has_one i (upK u.1 n, u.2)
theorem hasN_bd {c : Cfg} (hk : 1 ≤ keys c 0) (qs : Ups) (j n : Nat) (i : Int) (hj : j ≤ 60) : -65970697666560 ≤ hasK i (upN (upsR c 0 qs 0 j) n) ∧ hasK i (upN (upsR c 0 qs 0 j) n) ≤ 65970697666560 := by
  have h := upsR_in hk qs 0 j
  have hl := upsR_len c 0 qs 0 j
  have h2 := hasK_bd (k := i) (b := 1099511627776) (by omega) (us := upN (upsR c 0 qs 0 j) n) (fun v hv => by
    obtain ⟨u, hu, rfl⟩ := List.mem_map.1 hv
    exact ⟨(h.1 u hu).2.2.1, (h.1 u hu).2.2.2⟩)
  rw [upN_len] at h2
  omega
set_option maxRecDepth 100000 in
set_option maxHeartbeats 4000000 in
theorem rhas_any (c : Cfg) (A : Option Addr) (n0 k0 : Nat) (qs : Ups) (n : Nat) (i : Int) (w : World) (hco : c.Ok) (hkeys : 1 ≤ keys c 0) (hq : UpdV w A n0 k0 qs) (hn : n ≤ 63) (i0 : 0 ≤ i) (i1 : i ≤ 18446744073709551615) :
    Calls Tryz.prog 27 #[.agg #[.int .i64 c.bt, .int .i64 c.rw, .int .i64 c.wd, .int .i64 c.md, .int .u64 c.sd], .slice A n0 k0, .agg #[.int .i64 (n : Int), .int .u64 i]] w fun e w' => e = .returned (.int .i64 (hasK i (upN (upsR c 0 qs 0 60) n))) ∧ Below w.heap.size w w' := by
  have HQ := Lib.hid hq
  have HL := Lib.hid hq.len
  have hnc := hq.nc
  have hcm := hq.cm
  unfold maxLen at hcm
  have HKY := Lib.hid hkeys
  have HBD := Lib.hid (fun j (hj : j ≤ 60) => hasN_bd (c := c) hkeys qs j n i hj)
  have HSR := Lib.hid (fun U => shr_at (U := U) hn)
  have CC0 := Lib.hid (fun w k d h0 h1 h2 h3 => rcut15_any c k d w hco h0 h1 h2 h3 hkeys)
  have HBX : Hid (Have w ((w.alloc (.cells #[.int .i64 c.bt, .int .i64 c.rw, .int .i64 c.wd, .int .i64 c.md, .int .u64 c.sd] 24)).alloc (.cells #[.int .i64 (n : Int), .int .u64 i] 69)) [boxT (w.heap.size + 1) 69 #[.int .i64 (n : Int), .int .u64 i], boxT w.heap.size 24 #[.int .i64 c.bt, .int .i64 c.rw, .int .i64 c.wd, .int .i64 c.md, .int .u64 c.sd]]) := Lib.hid (two_boxs w _ _ _ _)
  have hu : IntKind.u64.wrap (n : Int) = n := by rw [IntKind.wrap_u64]; omega
  clear hq hkeys hco
  go_enter Tryz.func27, Tryz.ntmps27
  go_wp2
  go_loopw [7, 8] (fun sv iv wr => ∃ (j : Nat), j ≤ n0 ∧ j ≤ 60 ∧ iv = .int .i64 j ∧ sv = .int .i64 (hasK i (upN (upsR c 0 qs 0 j) n)) ∧ Have w wr [boxT (w.heap.size + 1) 69 #[.int .i64 (n : Int), .int .u64 i], boxT w.heap.size 24 #[.int .i64 c.bt, .int .i64 c.rw, .int .i64 c.wd, .int .i64 c.md, .int .u64 c.sd]]) (fun _ iv _ => n0 - (intOf iv).toNat)
  case atStart => exact ⟨0, Nat.zero_le _, Nat.zero_le _, rfl, by rw [upsR_zero]; rfl, HBX.out⟩
  case round =>
    obtain ⟨j, hj, hj6, rfl, rfl, hv⟩ := hrel
    have HVr := Lib.hid hv
    have hwb := hv.below
    have hbd := HBD.out j hj6
    obtain ⟨X, hX⟩ : ∃ X, hasK i (upN (upsR c 0 qs 0 j) n) = X := ⟨_, rfl⟩
    have HX := Lib.hid hX
    rw [hX] at hbd ⊢
    clear hv hX
    by_cases hlt : j < n0 ∧ j < 60
    · obtain ⟨hj1, hj2⟩ := hlt
      obtain ⟨q, hq1⟩ : ∃ q, qs[j]? = some q := ⟨_, List.getElem?_eq_getElem (by rw [HL.out]; omega)⟩
      have hnx := upsR_next (c := c) (l := 0) hq1 (Nat.zero_le j)
      have hsn := upN_snoc (upsR c 0 qs 0 j) (cutU c 0 q) n i
      rw [← hnx, HX.out] at hsn
      have hcu := cutU_ok HKY.out q
      obtain ⟨a, g, o, rfl, hadd, d1w, d2w, kb, db⟩ := HQ.out.at hq1
      obtain ⟨qk, qd⟩ := q
      simp only at d1w d2w kb db
      have d1 := cell_up d1w hwb
      have d2 := cell_up d2w hwb
      obtain ⟨e1, e2, e3, e4, e5⟩ := box5 HVr.out.i1
      have p1 := box_cell (i := 0) HVr.out.i0 rfl
      have p2 := box_cell (i := 1) HVr.out.i0 rfl
      have CC := Lib.hid (fun w => CC0.out w qk qd kb.1 kb.2 db.1 db.2)
      obtain ⟨U, hU⟩ : ∃ U, (cutU c 0 (qk, qd)).1 = U := ⟨_, rfl⟩
      obtain ⟨D, hD⟩ : ∃ D, (cutU c 0 (qk, qd)).2 = D := ⟨_, rfl⟩
      rw [hU, hD] at CC hcu hsn
      have hsr := HSR.out U
      obtain ⟨V, hV⟩ : ∃ V, upK U n = V := ⟨_, rfl⟩
      rw [hV] at hsr hsn
      have hsr2 : U / 2 ^ n = V := by rw [← hsr, Nat.min_eq_left (by omega)]
      have hdb : -1099511627776 ≤ D ∧ D ≤ 1099511627776 := ⟨hcu.2.2.1, hcu.2.2.2.1⟩
      have wx : wrap64 (X + D) = X + D := IntWalk.wrap64_in _ ⟨by omega, by omega⟩
      have wx2 : IntKind.i64.wrap (X + D) = X + D := IntWalk.i64_in _ ⟨by omega, by omega⟩
      obtain ⟨Y, hY⟩ : ∃ Y, X + D = Y := ⟨_, rfl⟩
      have wy : wrap64 (X + D) = Y := by rw [wx, hY]
      have wy2 : IntKind.i64.wrap (X + D) = Y := by rw [wx2, hY]
      have hsz := box_lt HVr.out.i0
      have lz := lt_sz hsz
      clear hq1 hnx hU hD hV hcu d1w d2w hwb wx wx2
      by_cases hvi : V = i
      · rw [if_pos hvi, hY] at hsn
        have HSN := Lib.hid hsn
        subst hvi
        clear hsn hY hdb hbd
        go_upto_region 6 with fail
        go_region_held3 (fun w' => w'.cell? ⟨w.heap.size, 0, none⟩ = some (.int .i64 c.bt) ∧ w'.cell? ⟨w.heap.size, 1, none⟩ = some (.int .i64 c.rw) ∧ w'.cell? ⟨w.heap.size, 2, none⟩ = some (.int .i64 c.wd) ∧ w'.cell? ⟨w.heap.size, 3, none⟩ = some (.int .i64 c.md) ∧ w'.cell? ⟨w.heap.size, 4, none⟩ = some (.int .u64 c.sd) ∧ w'.cell? ⟨g, o, none⟩ = some (.int .u64 qk) ∧ w'.cell? ⟨g, o + 1, none⟩ = some (.int .i64 qd)) (first | (refine ⟨?_, ?_, ?_, ?_, ?_, ?_, ?_⟩ <;> (first | (with_reducible assumption) | (with_reducible refine cell_up e1 ?_) | (with_reducible refine cell_up e2 ?_) | (with_reducible refine cell_up e3 ?_) | (with_reducible refine cell_up e4 ?_) | (with_reducible refine cell_up e5 ?_) | (with_reducible refine cell_up d1 ?_) | (with_reducible refine cell_up d2 ?_)) <;> (repeat' (first | (with_reducible exact Below.refl _ _) | (with_reducible assumption) | (with_reducible refine below_over ?_ _ _) | (with_reducible refine Lw.below_alloc ?_ _) | (with_reducible refine Below.drew ?_) | (with_reducible refine below_drewN ?_ _) | (with_reducible refine Below.setCell ?_ ?_ _) | go_size)))) (first | (go_at_call 26; (with_reducible refine (CC.out _).mono ?_); rintro e w' ⟨rfl, hb⟩; obtain ⟨bs, dd, rfl⟩ := below_grow hb; clear hb))
        all_goals go_wp2
        all_goals go_roundw
        all_goals first
          | exact ⟨j + 1, by omega, by omega, by go_num, by rw [HSN.out], HVr.out.up (by repeat' (first | (with_reducible exact Below.refl _ _) | (with_reducible assumption) | (with_reducible refine below_over ?_ _ _) | (with_reducible refine Lw.below_alloc ?_ _) | (with_reducible refine Below.drew ?_) | (with_reducible refine below_drewN ?_ _) | (with_reducible refine Below.setCell ?_ ?_ _) | go_size))⟩
          | (simp [intOf]; omega)
      · rw [if_neg hvi, Int.add_zero] at hsn
        have HSN := Lib.hid hsn
        have hvb : (V == i) = false := by simpa using hvi
        clear hsn hY hdb hbd wy wy2
        go_upto_region 6 with fail
        go_region_held3 (fun w' => w'.cell? ⟨w.heap.size, 0, none⟩ = some (.int .i64 c.bt) ∧ w'.cell? ⟨w.heap.size, 1, none⟩ = some (.int .i64 c.rw) ∧ w'.cell? ⟨w.heap.size, 2, none⟩ = some (.int .i64 c.wd) ∧ w'.cell? ⟨w.heap.size, 3, none⟩ = some (.int .i64 c.md) ∧ w'.cell? ⟨w.heap.size, 4, none⟩ = some (.int .u64 c.sd) ∧ w'.cell? ⟨g, o, none⟩ = some (.int .u64 qk) ∧ w'.cell? ⟨g, o + 1, none⟩ = some (.int .i64 qd)) (first | (refine ⟨?_, ?_, ?_, ?_, ?_, ?_, ?_⟩ <;> (first | (with_reducible assumption) | (with_reducible refine cell_up e1 ?_) | (with_reducible refine cell_up e2 ?_) | (with_reducible refine cell_up e3 ?_) | (with_reducible refine cell_up e4 ?_) | (with_reducible refine cell_up e5 ?_) | (with_reducible refine cell_up d1 ?_) | (with_reducible refine cell_up d2 ?_)) <;> (repeat' (first | (with_reducible exact Below.refl _ _) | (with_reducible assumption) | (with_reducible refine below_over ?_ _ _) | (with_reducible refine Lw.below_alloc ?_ _) | (with_reducible refine Below.drew ?_) | (with_reducible refine below_drewN ?_ _) | (with_reducible refine Below.setCell ?_ ?_ _) | go_size)))) (first | (go_at_call 26; (with_reducible refine (CC.out _).mono ?_); rintro e w' ⟨rfl, hb⟩; obtain ⟨bs, dd, rfl⟩ := below_grow hb; clear hb))
        all_goals go_wp2
        all_goals go_roundw
        all_goals first
          | exact ⟨j + 1, by omega, by omega, by go_num, by rw [HSN.out], HVr.out.up (by repeat' (first | (with_reducible exact Below.refl _ _) | (with_reducible assumption) | (with_reducible refine below_over ?_ _ _) | (with_reducible refine Lw.below_alloc ?_ _) | (with_reducible refine Below.drew ?_) | (with_reducible refine below_drewN ?_ _) | (with_reducible refine Below.setCell ?_ ?_ _) | go_size))⟩
          | (simp [intOf]; omega)
    · have hend : upsR c 0 qs 0 j = upsR c 0 qs 0 60 := upsR_end hj6 (by rw [HL.out]; omega)
      have hXe := HX.out
      rw [hend] at hXe
      have HXE := Lib.hid hXe
      have hcases : ((j : Int) < n0 ∧ ¬ (j : Int) < 60) ∨ ¬ (j : Int) < n0 := by omega
      clear hend hXe hlt hbd
      rcases hcases with ⟨hc1, hc2⟩ | hc1
      all_goals go_wp2
      all_goals go_ret
      all_goals exact ⟨by first | (rw [HXE.out]; rfl) | rfl, HVr.out.below⟩
end Go.Proofs.YtmdkdjgamhaeoaaGreat.Stk
/- The document's In: does a piece lie within another one? By hand. -/
namespace Go.Proofs.YtmdkdjgamhaeoaaGreat.Hvy
open Go Go.RowKit Lw Grd Lin Con Shp Sk Exa Lev Stk Pcs Spn Qnt
set_option linter.unusedVariables false
set_option linter.unusedSimpArgs false
theorem in_no {a b c d : Nat} (h : ¬ a ≤ c) : inQ (a, b) (c, d) = false := decide_eq_false (fun g => h g.1)
theorem in_yes {a b c d : Nat} (h : a ≤ c) : inQ (a, b) (c, d) = (b / 2 ^ (c - a) == d) := by
  unfold inQ
  by_cases e : b / 2 ^ (c - a) = d
  · rw [decide_eq_true ⟨h, e⟩]
    exact (beq_iff_eq.2 e).symm
  · rw [decide_eq_false (fun g => e g.2)]
    exact (beq_eq_false_iff_ne.2 e).symm
theorem cast_beq (a b : Nat) : ((a : Int) == (b : Int)) = (a == b) := by
  by_cases h : a = b
  · subst h
    rw [beq_self_eq_true, beq_self_eq_true]
  · rw [beq_eq_false_iff_ne.2 h]
    exact beq_eq_false_iff_ne.2 (by omega)
set_option maxRecDepth 100000 in
set_option maxHeartbeats 4000000 in
theorem rin_ex (a b c d : Nat) (w : World) (ha : a ≤ 60) (hc : c ≤ 60) :
    Calls Tryz.prog 30 #[.agg #[.int .i64 (a : Int), .int .u64 (b : Int)], .agg #[.int .i64 (c : Int), .int .u64 (d : Int)]] w fun e w' => e = .returned (.bool (inQ (a, b) (c, d))) ∧ w' = (w.alloc (.cells #[.int .i64 (a : Int), .int .u64 (b : Int)] 69)).alloc (.cells #[.int .i64 (c : Int), .int .u64 (d : Int)] 69) := by
  obtain ⟨A1, hA1⟩ : ∃ v : Int, (a : Int) = v := ⟨_, rfl⟩
  obtain ⟨C1, hC1⟩ : ∃ v : Int, (c : Int) = v := ⟨_, rfl⟩
  obtain ⟨D1, hD1⟩ : ∃ v : Int, (d : Int) = v := ⟨_, rfl⟩
  obtain ⟨B1, hB1⟩ : ∃ v : Int, (b : Int) = v := ⟨_, rfl⟩
  rw [hA1, hB1, hC1, hD1]
  by_cases h : a ≤ c
  · rw [in_yes h, ← cast_beq, hD1]
    obtain ⟨n, hn⟩ : ∃ n, c - a = n := ⟨_, rfl⟩
    rw [hn]
    obtain ⟨Q1, hQ1⟩ : ∃ v : Int, ((b / 2 ^ n : Nat) : Int) = v := ⟨_, rfl⟩
    have w1 : wrap64 (C1 - A1) = (n : Int) := (IntWalk.wrap64_in _ ⟨by omega, by omega⟩).trans (by omega)
    have w2 : IntKind.i64.wrap (C1 - A1) = (n : Int) := (IntWalk.i64_in _ ⟨by omega, by omega⟩).trans (by omega)
    have w3 : IntKind.u64.wrap (n : Int) = (n : Int) := by rw [IntKind.wrap_u64]; omega
    have w4 : B1 / 2 ^ min n 64 = Q1 := by rw [Nat.min_eq_left (by omega), ← hB1, ← hQ1]; simp
    have w5 : B1 / 2 ^ n = Q1 := by rw [← hB1, ← hQ1]; simp
    have w6 : decide (A1 ≤ C1) = true := decide_eq_true (by omega)
    have w7 : A1 ≤ C1 := by omega
    rw [hQ1]
    clear hn hA1 hC1 hD1 hB1 hQ1 h ha hc
    go_enter Tryz.func30, Tryz.ntmps30
    go_wp2
    go_ret
    exact ⟨ret_bs (by first | rfl | (simp [*]; done)), rfl⟩
  · rw [in_no h]
    have w6 : decide (A1 ≤ C1) = false := decide_eq_false (by omega)
    have w7 : ¬ A1 ≤ C1 := by omega
    have w8 : C1 < A1 := by omega
    clear hA1 hC1 hD1 hB1 h ha hc
    go_enter Tryz.func30, Tryz.ntmps30
    go_wp2
    go_ret
    exact ⟨ret_bs (by first | rfl | (simp [*]; done)), rfl⟩
theorem rin_any (a b c d : Nat) (w : World) (ha : a ≤ 60) (hc : c ≤ 60) :
    Calls Tryz.prog 30 #[.agg #[.int .i64 (a : Int), .int .u64 (b : Int)], .agg #[.int .i64 (c : Int), .int .u64 (d : Int)]] w fun e w' => e = .returned (.bool (inQ (a, b) (c, d))) ∧ Below w.heap.size w w' :=
  (rin_ex a b c d w ha hc).mono (fun e w' ⟨h1, h2⟩ => ⟨h1, by rw [h2]; exact Lw.below_alloc (Lw.below_alloc (Below.refl _ _) _) _⟩)
/-- In, as a region that only reads and lays blocks meets it. -/
theorem rin_grown (a b c d : Nat) (w : World) (n : Nat) (os : Array Obj) (ha : a ≤ 60) (hc : c ≤ 60) {v : Bool} (hv : inQ (a, b) (c, d) = v) :
    Calls Tryz.prog 30 #[.agg #[.int .i64 (a : Int), .int .u64 (b : Int)], .agg #[.int .i64 (c : Int), .int .u64 (d : Int)]] (Go.Sort.grow (w.drewN n) os) fun e w'' => e = .returned (.bool v) ∧ ∃ p : GrownBy, w'' = Go.Sort.grow (w.drewN p.n) p.os := by
  refine Calls.grown_of ((rin_ex a b c d _ ha hc).mono (fun e w' ⟨h1, h2⟩ => ⟨by rw [h1, hv], 0, #[.cells #[.int .i64 (a : Int), .int .u64 (b : Int)] 69, .cells #[.int .i64 (c : Int), .int .u64 (d : Int)] 69], ?_⟩))
  rw [h2]
  unfold World.alloc Go.Sort.grow World.drewN
  simp
  congr 1
theorem below_sgrow (w : World) (n : Nat) (os : Array Obj) : Below w.heap.size w (Go.Sort.grow (w.drewN n) os) :=
  ⟨rfl, rfl, rfl, by unfold Go.Sort.grow World.drewN; simp, fun k hk => by
    unfold Go.Sort.grow World.drewN
    simp only
    rw [Array.getElem?_append_left hk]⟩
theorem cell_sgrow {w : World} {a : Addr} {v : Value} (h : w.cell? a = some v) : ∀ (n : Nat) (os : Array Obj), (Go.Sort.grow (w.drewN n) os).cell? a = some v := fun n os => cell_grown (cell_lt h) h n os
end Go.Proofs.YtmdkdjgamhaeoaaGreat.Hvy
/- The document's Between of layer 16. Printed by wip/gen/spn5.py. -/
namespace Go.Proofs.YtmdkdjgamhaeoaaGreat.Spn
open Go Go.RowKit Lw Grd Lin Con Shp Sk Exa Lev Stk Pcs
set_option linter.unusedVariables false
set_option linter.unusedSimpArgs false
/-- What the keys from lo to hi have. -/
def bt (lo hi : Int) : Ups → Int
  | [] => 0
  | u :: us => (if lo ≤ u.1 ∧ u.1 ≤ hi then u.2 else 0) + bt lo hi us
end Go.Proofs.YtmdkdjgamhaeoaaGreat.Spn
/- The code's stack as a thing. Printed by wip/gen/stk.py. -/
namespace Go.Proofs.YtmdkdjgamhaeoaaGreat.Stk
open Go Go.RowKit Lw Grd Lin Con Shp Sk Exa Lev
set_option linter.unusedVariables false
set_option linter.unusedSimpArgs false
/-- A stack of the code at p, in the blocks F. -/
def ST (w : World) (p : Addr) (F : Nat → Prop) (c : Cfg) (sts : List LS) : Prop :=
  IsRight c ∧ c.Ok ∧ sts.length = c.bt.toNat + 1 ∧ ∃ (b B0 : Nat) (hdr : Value) (vals : List Value) (ts : List Thing), p = ⟨b, 0, none⟩ ∧ LRow elvT c vals ts sts ∧ (manyT (boxT b 85 #[.int .i64 c.bt, .int .i64 c.rw, .int .i64 c.wd, .int .i64 c.md, .int .u64 c.sd, hdr] :: ownT B0 87 hdr vals :: ts)).I w ∧ F = (manyT (boxT b 85 #[.int .i64 c.bt, .int .i64 c.rw, .int .i64 c.wd, .int .i64 c.md, .int .u64 c.sd, hdr] :: ownT B0 87 hdr vals :: ts)).F
def stT (p : Addr) (F : Nat → Prop) (c : Cfg) (sts : List LS) : Thing where
  I := fun w => ST w p F c sts
  F := F
  keep := fun w w' H h hk hf => by
    obtain ⟨h1, h2, h3, b, B0, hdr, vals, ts, e, hr, hm, rfl⟩ := h
    exact ⟨h1, h2, h3, b, B0, hdr, vals, ts, e, hr, (manyT _).keep w w' H hm hk hf, rfl⟩
  lt := fun w h k hk => by
    obtain ⟨h1, h2, h3, b, B0, hdr, vals, ts, e, hr, hm, rfl⟩ := h
    exact (manyT _).lt w hm k hk
theorem stI {w : World} {p : Addr} {F : Nat → Prop} {c : Cfg} {sts : List LS} (h : (stT p F c sts).I w) : ST w p F c sts := h
theorem ST.right {w : World} {p : Addr} {F : Nat → Prop} {c : Cfg} {sts : List LS} (h : ST w p F c sts) : IsRight c ∧ c.Ok ∧ sts.length = c.bt.toNat + 1 := ⟨h.1, h.2.1, h.2.2.1⟩
theorem ST.up {w w' : World} {p : Addr} {F : Nat → Prop} {c : Cfg} {sts : List LS} (h : ST w p F c sts) (hb : Below w.heap.size w w') : ST w' p F c sts :=
  (stT p F c sts).keep w w' (fun _ => False) h (Kept.of_below hb) (fun _ _ h => h)
/-- A level's cells, if there is such a level. -/
def lvFl (sts : List LS) (n : Int) : List Int := if 0 ≤ n then ((sts[n.toNat]?).map LS.fl).getD [] else []
def spV (c : Cfg) (sts : List LS) (n i : Int) : Int := if 0 ≤ n then ((sts[n.toNat]?).map (fun st => lsPtV c n st i)).getD 0 else 0
def spC (c : Cfg) (sts : List LS) (n i : Int) : Int := if 0 ≤ n then ((sts[n.toNat]?).map (fun st => lsPtC c n st i)).getD 2 else 2
end Go.Proofs.YtmdkdjgamhaeoaaGreat.Stk
/- What Point tells of a stack of the code is a number of 64 bits. For stages from 16 on. -/
namespace Go.Proofs.YtmdkdjgamhaeoaaGreat.Spn
open Go Go.RowKit Lw Grd Lin Con Shp Sk Exa Lev Stk Pcs
set_option linter.unusedVariables false
theorem flat_in16 {m n : Nat} {L : List (List Int)} (h : Dims m n L) : In64 L.flatten := fun v hv => by
  obtain ⟨r, hr, h2⟩ := List.mem_flatten.1 hv
  exact (h.rows r hr).2 v h2
theorem named_in16 : ∀ {L : List (List Int)} {cs : List Int}, In64 L.flatten → ∀ v ∈ named L cs, -9223372036854775808 ≤ v ∧ v ≤ 9223372036854775807
  | [], _, _ => fun v hv => by simp [named] at hv
  | _ :: _, [], _ => fun v hv => by simp [named] at hv
  | r :: L, k :: cs, h => fun v hv => by
    rcases List.mem_cons.1 (show v ∈ (r[k.toNat]?.getD 0) :: named L cs from hv) with e | e
    · subst e
      cases h1 : r[k.toNat]? with
      | none => simp
      | some y => exact h y (by rw [List.flatten_cons]; exact List.mem_append_left _ (List.mem_of_getElem? h1))
    · exact named_in16 (fun x hx => h x (by rw [List.flatten_cons]; exact List.mem_append_right _ hx)) v e
theorem pt_in16 (c : Cfg) (l i : Int) {st : LS} (h : In64 st.fl) : -9223372036854775808 ≤ lsPtV c l st i ∧ lsPtV c l st i ≤ 9223372036854775807 := by
  cases st with
  | A L =>
    show _ ≤ Exa.ptV L i ∧ Exa.ptV L i ≤ _
    unfold Exa.ptV
    split
    · omega
    · unfold num
      cases h1 : L[i.toNat]? with
      | none => simp
      | some y => exact h y (List.mem_of_getElem? h1)
  | S L =>
    show _ ≤ ptVal c l L i ∧ ptVal c l L i ≤ _
    unfold ptVal
    split
    · omega
    · split
      · exact Ord.kv_in _ _ _ _ (by omega) (by omega) (named_in16 h)
      · exact Ord.kv_in _ _ _ _ (by omega) (by omega) (named_in16 h)
theorem st_in16 {w : World} {p : Addr} {F : Nat → Prop} {c : Cfg} {sts : List LS} (h : ST w p F c sts) {n : Nat} {st : LS} (hs : sts[n]? = some st) : In64 st.fl := by
  obtain ⟨hr, hc, hlen, b, B0, hdr, vals, ts, rfl, hrow, hI, rfl⟩ := h
  obtain ⟨st2, v, Q, e1, e2, e3⟩ := hrow.at (j := n) ((List.getElem?_eq_some_iff.1 hs).1)
  rw [hs] at e1
  injection e1 with e1
  subst e1
  have h1 : ELV w v Q c (n : Int) st := hI.1 (elvT v Q c (n : Int) st) (List.mem_cons_of_mem _ (List.mem_cons_of_mem _ (List.mem_of_getElem? e3)))
  cases st with
  | A L =>
    obtain ⟨p, rfl, h2⟩ := h1.2
    exact h2.in64
  | S L =>
    obtain ⟨p, rfl, h2⟩ := h1.2
    exact flat_in16 h2.dims
theorem sp_in16 {w : World} {p : Addr} {F : Nat → Prop} {c : Cfg} {sts : List LS} (h : ST w p F c sts) (n i : Int) : -9223372036854775808 ≤ spV c sts n i ∧ spV c sts n i ≤ 9223372036854775807 := by
  unfold spV
  split
  · cases hs : sts[n.toNat]? with
    | none => simp
    | some st => exact pt_in16 c n i (st_in16 h hs)
  · omega
end Go.Proofs.YtmdkdjgamhaeoaaGreat.Spn
/- The code's iterator over levels: what it hands to a round, and what it asks of it. By hand. -/
namespace Go.Proofs.YtmdkdjgamhaeoaaGreat.Stk
open Go Go.RowKit Lw Grd Lin Con Shp Sk Exa Lev
set_option linter.unusedVariables false
set_option linter.unusedSimpArgs false
attribute [local go_sem] Oper.semAt_some
/-- One of N levels. -/
abbrev Lof (N : Nat) := {j : Nat // j < N}
/-- What a round is handed. -/
def encL (vals : List Value) (c : Cfg) (k : Int) (x : Lof vals.length) : Array Value := #[vals[x.1]'x.2, .int .u64 (aboveV c x.1 k)]
/-- The first levels, one behind another. -/
def UpTo {N : Nat} (pre : List (Lof N)) : Prop := pre.map (fun x => x.1) = List.range pre.length
theorem UpTo.nil (N : Nat) : UpTo ([] : List (Lof N)) := rfl
theorem UpTo.snoc {N : Nat} {pre : List (Lof N)} {x : Lof N} : UpTo (pre ++ [x]) ↔ UpTo pre ∧ x.1 = pre.length := by
  unfold UpTo
  rw [List.map_append, List.length_append, List.length_singleton, List.range_succ]
  constructor
  · intro h
    obtain ⟨h1, h2⟩ := List.append_inj h (by simp)
    exact ⟨h1, by simpa using h2⟩
  · rintro ⟨h1, h2⟩
    rw [h1, ← h2]
    rfl
theorem grown_of {w w' : World} (h : Below w.heap.size w w') : w.grownBy w' none := ⟨h.1, h.2, h.3, h.4, fun k hk _ => h.5 k hk⟩
set_option maxRecDepth 100000 in
set_option maxHeartbeats 2000000 in
theorem above_iter (m : Nat) (hm : 1 ≤ m) (c : Cfg) (hc : c.Ok) (k : Int) (k0 : 0 ≤ k) (k1 : k ≤ 18446744073709551615) (l bs bk b g cap : Nat) (G : Nat → Prop) (vals : List Value) (hN : vals.length ≤ 60) (hbs : G bs) (hbk : G bk) (hb : G b) (hg : G g) (J Jx : List (Lof vals.length) → World → Prop)
    (W : World) (hG : ∀ k, G k → k < W.heap.size) (hJ : AbidesFrom W.heap.size J)
    (hY : ∀ pre x W, J pre W → pre.length < vals.length → YieldAt Fence.wide (m - 1) Tryz.prog l (encL vals c k x) W fun e W' => (e = .returned (.bool true) ∧ J (pre ++ [x]) W' ∧ KeptG G W W') ∨ (e = .returned (.bool false) ∧ Jx (pre ++ [x]) W'))
    (h1 : W.cell? ⟨bs, 0, none⟩ = some (.pointer (some ⟨b, 0, none⟩))) (h2 : W.cell? ⟨bk, 0, none⟩ = some (.int .u64 k)) (h3 : W.heap[b]? = some (.cells #[.int .i64 c.bt, .int .i64 c.rw, .int .i64 c.wd, .int .i64 c.md, .int .u64 c.sd, .slice (some ⟨g, 0, none⟩) vals.length cap] 85 (0, 0))) (h4 : ∀ (j : Nat) (v : Value), vals[j]? = some v → W.cell? ⟨g, j, none⟩ = some v) (h0 : J [] W) :
    CallsIn Fence.wide m Tryz.prog 63 #[.func (.yield l) #[] #[], .pointer (some ⟨bs, 0, none⟩), .pointer (some ⟨bk, 0, none⟩)] W fun e W' => (∃ v, e = .returned v) ∧ ((∃ xs, (UpTo xs ∧ xs.length = vals.length) ∧ J xs W') ∨ (∃ pre, UpTo pre ∧ Jx pre W')) := by
  have hbx : (boxT b 85 #[.int .i64 c.bt, .int .i64 c.rw, .int .i64 c.wd, .int .i64 c.md, .int .u64 c.sd, .slice (some ⟨g, 0, none⟩) vals.length cap]).I W := h3
  refine callsIn_of_wp Tryz.func63 rfl trivial ?_ rfl
  simp only [Tryz.ntmps63, List.size_toArray, List.length_cons, List.length_nil, Nat.reduceAdd, Nat.reduceSub, Array.replicate_succ, Array.replicate_zero, List.push_toArray, List.append_toArray, List.nil_append, List.cons_append]
  have c0 : W.cell? ⟨b, 0, none⟩ = some (.int .i64 c.bt) := box_cell hbx rfl
  have c1 : W.cell? ⟨b, 1, none⟩ = some (.int .i64 c.rw) := box_cell hbx rfl
  have c2 : W.cell? ⟨b, 2, none⟩ = some (.int .i64 c.wd) := box_cell hbx rfl
  have c3 : W.cell? ⟨b, 3, none⟩ = some (.int .i64 c.md) := box_cell hbx rfl
  have c4 : W.cell? ⟨b, 4, none⟩ = some (.int .u64 c.sd) := box_cell hbx rfl
  have c5 : W.cell? ⟨b, 5, none⟩ = some (.slice (some ⟨g, 0, none⟩) vals.length cap) := box_cell hbx rfl
  gi_wp2
  gi_loopw [13] (fun i wr => ∃ (j : Nat) (pre : List (Lof vals.length)), j ≤ vals.length ∧ i = .int .i64 j ∧ UpTo pre ∧ pre.length = j ∧ J pre wr ∧ KeptG G W wr)
    (fun i _ => vals.length - (intOf i).toNat)
  case atStart => exact ⟨0, [], Nat.zero_le _, rfl, UpTo.nil _, rfl, h0, KeptG.refl _ _⟩
  case round =>
    obtain ⟨j, pre, hj, rfl, hup, hlen, hJs, hkp⟩ := hrel
    by_cases hlt : j < vals.length
    · obtain ⟨v, hv⟩ : ∃ v, vals[j]? = some v := ⟨_, List.getElem?_eq_getElem hlt⟩
      have hv2 : vals[j]'hlt = v := by
        have h9 := List.getElem?_eq_getElem hlt
        rw [hv] at h9
        exact (Option.some.inj h9).symm
      have hcv := hkp.cell (h4 j v hv) hg
      have d1 := hkp.cell h1 hbs
      have d2 := hkp.cell h2 hbk
      have e0 := hkp.cell c0 hb
      have e1 := hkp.cell c1 hb
      have e2 := hkp.cell c2 hb
      have e3 := hkp.cell c3 hb
      have e4 := hkp.cell c4 hb
      gi_wp2
      refine wpIn_wide.2 ?_
      go_region_with (go_at_call 64; (with_reducible refine (above_any c j k _ hc (by omega) (by omega) k0 k1).mono ?_); rintro e w' ⟨rfl, hbw⟩; have hb2 : Below wr.heap.size wr w' := (Below.drew (Below.refl _ wr)).trans hbw; have hJ2 := hJ pre wr w' none hJs (grown_of hb2) (fun r e => by cases e); obtain ⟨fn, tmps, assign, body, hy, hR⟩ := hY pre ⟨j, hlt⟩ w' hJ2 (by omega); have hk2 := hkp.trans (KeptG.of_below (fun k hk => Nat.lt_of_lt_of_le (hG k hk) hkp.size) hb2); simp only [encL, hv2] at hy)
      all_goals
        gi_wp2
        refine hR.mono ?_
        rintro e W3 (⟨rfl, hJ3, hk3⟩ | ⟨rfl, hJx3⟩)
        · gi_wp2
          go_roundw
          case rel => exact ⟨j + 1, pre ++ [⟨j, hlt⟩], by omega, by simp, UpTo.snoc.2 ⟨hup, hlen.symm⟩, by simp [hlen], hJ3, hk2.trans hk3⟩
          case measure => simp [intOf]; omega
        · gi_wp2
          refine bodyPost_ret (results_none rfl _ _ _) rfl ?_
          exact ⟨⟨_, rfl⟩, .inr ⟨pre ++ [⟨j, hlt⟩], UpTo.snoc.2 ⟨hup, hlen.symm⟩, hJx3⟩⟩
    · obtain rfl : j = vals.length := by omega
      gi_wp2
      go_end0
      exact ⟨⟨_, rfl⟩, .inl ⟨pre, ⟨hup, hlen⟩, hJs⟩⟩
end Go.Proofs.YtmdkdjgamhaeoaaGreat.Stk
/- The code's first error over all levels: a range over a function. Printed by wip/gen/stk10.py. -/
namespace Go.Proofs.YtmdkdjgamhaeoaaGreat.Stk
open Go Go.RowKit Lw Grd Lin Con Shp Sk Exa Lev Go.Shelf
set_option linter.unusedVariables false
set_option linter.unusedSimpArgs false
attribute [local go_sem] Oper.semAt_some
theorem sabove_any (p : Addr) (k : Int) (w : World) :
    Calls Tryz.prog 36 #[.pointer (some p), .int .u64 k] w fun e w' => e = .returned (.func (.func 63) #[] #[.pointer (some ⟨w.heap.size, 0, none⟩), .pointer (some ⟨w.heap.size + 1, 0, none⟩)]) ∧ w' = (w.alloc (.cells #[.pointer (some p)] 30)).alloc (.cells #[.int .u64 k] 22) := by
  go_enter Tryz.func36, Tryz.ntmps36
  go_wp2
  go_ret
  exact ⟨rfl, rfl⟩
theorem HoldC.drop {F0 : Nat → Prop} {w0 w : World} {t : Thing} {ts : List Thing} (h : HoldC F0 w0 w (t :: ts)) : HoldC F0 w0 w ts :=
  ⟨⟨h.1.1, fun u hu => h.1.2.1 u (List.mem_cons_of_mem _ hu), h.1.2.2.2⟩, fun u hu => h.2 u (List.mem_cons_of_mem _ hu)⟩
theorem holdc_store {F0 : Nat → Prop} {w0 w : World} {fs ts : List Thing} {b : Nat} {e : TypeId} {v v' : Value} (h : HoldC F0 w0 w (fs ++ boxT b e #[v] :: ts)) : HoldC F0 w0 (w.setCell ⟨b, 0, none⟩ v') (fs ++ boxT b e #[v'] :: ts) := by
  have hb : Boxed w b e v := h.i (t := boxT b e #[v]) (by simp)
  have hb2 := hb.set v'
  refine h.turn (boxT b e #[v']) hb2 (Kept.set (F := (boxT b e #[v]).F) (Kept.refl _ _) (.inl rfl) 0 v') (fun k hk => .inl hk) (cel_box hb2)
set_option maxRecDepth 100000 in
set_option maxHeartbeats 2000000 in
theorem first_1 (c : Cfg) (k : Int) (vals : List Value) (lb : Array Value) (bd : Nat) (F0 : Nat → Prop) (w0 w : World) (gs ls0 : List Thing)
    (P : List (Lof vals.length) → List Thing → Prop) (Px : List (Lof vals.length) → Int → List Thing → Prop)
    (h0 : HoldC F0 w0 w (gs ++ ls0)) (hP : P [] ls0)
    (hseq : ∀ (w1 : World) (m : Nat), 1 ≤ m → Below w.heap.size w w1 → SeqStopsK Fence.wide m Tryz.prog 63 lb (encL vals c k) (KeptG (manyT gs).F) (fun xs => UpTo xs ∧ xs.length = vals.length) UpTo vals.length w1)
    (hcall : ∀ (us : List Thing) (pre : List (Lof vals.length)) (ls : List Thing) (x : Lof vals.length) (W : World), HoldC F0 w0 W (us ++ (gs ++ ls)) → P pre ls → pre.length < vals.length →
      Calls Tryz.prog 37 #[vals[x.1]'x.2, .int .u64 (aboveV c x.1 k), .pointer (some ⟨bd, 0, none⟩)] W fun e W' => ∃ (code : Int) (ls' : List Thing), e = .returned (.int .i64 code) ∧ KeepsOthers W W' ∧ KeptG (manyT gs).F W W' ∧ HoldC F0 w0 W' (us ++ (gs ++ ls')) ∧ (code = 0 → P (pre ++ [x]) ls') ∧ (¬ code = 0 → Px (pre ++ [x]) code ls')) :
    Calls Tryz.prog 35 #[.func (.func 63) #[] lb, .func (.func 37) #[] #[.pointer (some ⟨bd, 0, none⟩)]] w fun e W' =>
      ∃ ls, HoldC F0 w0 W' (gs ++ ls) ∧ ((e = .returned (.int .i64 0) ∧ ∃ xs, (UpTo xs ∧ xs.length = vals.length) ∧ P xs ls) ∨ (∃ pre code, UpTo pre ∧ ¬ code = 0 ∧ e = .returned (.int .i64 code) ∧ Px pre code ls)) := by
  refine (callsIn_wide (n := 9)).1 ?_
  refine callsIn_of_wp_marks Tryz.func35 rfl trivial ?_ rfl
  simp only [Tryz.ntmps35, List.size_toArray, List.length_cons, List.length_nil, Nat.reduceAdd, Nat.reduceSub, Array.replicate_succ, Array.replicate_zero, List.push_toArray, List.append_toArray, List.nil_append, List.cons_append]
  gi_wp2
  have B1 : Below w.heap.size w (w.alloc (.cells #[.func (.func 37) #[] #[.pointer (some ⟨bd, 0, none⟩)]] 96)) := Lw.below_alloc (Below.refl _ _) _
  have B2 := Lw.below_alloc (Below.refl _ (w.alloc (.cells #[.func (.func 37) #[] #[.pointer (some ⟨bd, 0, none⟩)]] 96))) (.cells #[.int .i64 0] 31)
  have h1 := h0.push (boxT w.heap.size 96 #[.func (.func 37) #[] #[.pointer (some ⟨bd, 0, none⟩)]]) B1 (heap_alloc_new w _) (fun k hk => Nat.le_of_eq hk.symm) (cel_box (heap_alloc_new w _))
  have h2 := h1.push (boxT (w.heap.size + 1) 31 #[.int .i64 0]) B2 (by have := heap_alloc_new (w.alloc (.cells #[.func (.func 37) #[] #[.pointer (some ⟨bd, 0, none⟩)]] 96)) (.cells #[.int .i64 0] 31); rw [World.size_alloc] at this; exact this) (fun k hk => Nat.le_of_eq (by simp; exact hk.symm)) (cel_box (by have := heap_alloc_new (w.alloc (.cells #[.func (.func 37) #[] #[.pointer (some ⟨bd, 0, none⟩)]] 96)) (.cells #[.int .i64 0] 31); rw [World.size_alloc] at this; exact this))
  have hG : ∀ k, (manyT gs).F k → k < w.heap.size := fun k hk => by
    obtain ⟨t, ht, hk2⟩ := hk
    exact t.lt w (h0.i (List.mem_append_left _ ht)) k hk2
  have hw0 : w0.heap.size ≤ w.heap.size := h0.1.1.size
  have hI : ∀ (r : Int) (us : List Thing), OwnFrom w.heap.size (fun (_ : Unit) W => HoldC F0 w0 W us) := fun r us => HoldC.own hw0 (fun _ => us)
  refine wpIn_rangeFunc_ownG rfl (by omega) (gf := 63) (lb := lb) rfl trivial (enters_of Tryz.func63 (by kernel_rfl) rfl)
    (hseq _ (9 - 1) (by omega) (B1.trans (B2.mono (by simp)))) (fun h k => KeptG.trans h k) (KeptG.put (fun k hk => by have := hG k hk; simp; omega)) (Below.refl _ _) (fun _ => rfl)
    (fun pre W => ∃ ls, HoldC F0 w0 W (boxT (w.heap.size + 1) 31 #[.int .i64 0] :: boxT w.heap.size 96 #[.func (.func 37) #[] #[.pointer (some ⟨bd, 0, none⟩)]] :: (gs ++ ls)) ∧ P pre ls)
    (fun j pre W => j = .ret ∧ ∃ ls code, HoldC F0 w0 W (boxT (w.heap.size + 1) 31 #[.int .i64 code] :: boxT w.heap.size 96 #[.func (.func 37) #[] #[.pointer (some ⟨bd, 0, none⟩)]] :: (gs ++ ls)) ∧ ¬ code = 0 ∧ Px pre code ls)
    (by
      rintro s A B row ⟨ls, h, hp⟩ hg hr
      exact ⟨ls, HoldC.own (Nat.le_trans hw0 (by simp; omega)) (fun (_ : Unit) => _) () A B row h hg hr, hp⟩)
    (by
      rintro j s A B row ⟨hj, ls, code, h, hne, hp⟩ hg hr
      exact ⟨hj, ls, code, HoldC.own (Nat.le_trans hw0 (by simp; omega)) (fun (_ : Unit) => _) () A B row h hg hr, hne, hp⟩)
    ⟨ls0, h2, hP⟩
    (fun x => { tmps := #[.func (.func 63) #[] lb, .func (.func 37) #[] #[.pointer (some ⟨bd, 0, none⟩)], undef, .pointer (some ⟨w.heap.size, 0, none⟩), .pointer (some ⟨w.heap.size + 1, 0, none⟩), vals[x.1]'x.2, .int .u64 (aboveV c x.1 k), undef, .func (.func 63) #[] lb, vals[x.1]'x.2, .int .u64 (aboveV c x.1 k), undef, undef, undef, undef, undef, undef, undef], defers := [] }) ?assign ?body ?done ?stop
  case assign =>
    intro l x W K hK
    simp only [encL]
    gi_wp2
    exact hK
  case body =>
    rintro l pre x W ⟨ls, hh, hp⟩ hlen
    have b1 := box_cell (hh.i (t := boxT w.heap.size 96 #[.func (.func 37) #[] #[.pointer (some ⟨bd, 0, none⟩)]]) (by simp)) (i := 0) rfl
    gi_wp2_with (refine ⟨trivial, ?_⟩; gi_at_call 37; refine (CallsIn.inRound l (callsIn_wide.2 (hcall [boxT (w.heap.size + 1) 31 #[.int .i64 0], boxT w.heap.size 96 #[.func (.func 37) #[] #[.pointer (some ⟨bd, 0, none⟩)]]] pre ls x W hh hp hlen))).mono ?_; rintro e W' ⟨code, ls', rfl, hko, hkg, hh', hz, hnz⟩; have r1 : Boxed W' (w.heap.size + 1) 31 (.int .i64 0) := hh'.i (t := boxT (w.heap.size + 1) 31 #[.int .i64 0]) (by simp); have r2 := r1.cell; have r3 := r1.frozen)
    · rename_i hcc
      have hc0 : ¬ code = 0 := by simpa using hcc
      have hs := holdc_store (v' := .int .i64 code) (fs := []) hh'
      exact ⟨(hko.trans (KeepsOthers.setCell _ _ _)).from _, rfl, ls', code, hs, hc0, hnz hc0⟩
    · rename_i hcc
      have hc0 : code = 0 := by simpa using hcc
      exact ⟨hko.from _, hkg, ls', hh', hz hc0⟩
  case done =>
    rintro D ys W hD hys ⟨ls, hh, hp⟩ hK
    have r1 : Boxed W (w.heap.size + 1) 31 (.int .i64 0) := hh.i (t := boxT (w.heap.size + 1) 31 #[.int .i64 0]) (by simp)
    have r2 := r1.cell
    have r3 := r1.frozen
    gi_wp2
    have hs := holdc_store (v' := .int .i64 0) (fs := []) hh
    have hK' := (KeepsOthers.setCell W ⟨w.heap.size + 1, 0, none⟩ (.int .i64 0)).same D _ hK rfl
    refine ⟨by simp, .inl ⟨_, _, rfl, run_takeDeferred hK', ?_⟩⟩
    have hs2 := HoldC.own (B := w.heap.size) hw0 (fun (_ : Unit) => boxT (w.heap.size + 1) 31 #[.int .i64 0] :: boxT w.heap.size 96 #[.func (.func 37) #[] #[.pointer (some ⟨bd, 0, none⟩)]] :: (gs ++ ls)) () _ _ _ hs (grownBy_putObj' _ D (.deferred none)) (fun r e => by cases e; exact ⟨by simp at hD; omega, _, hK', rfl⟩)
    have hc5 : (((W.setCell ⟨w.heap.size + 1, 0, none⟩ (.int .i64 0)).putObj D (.deferred none))).cell? ⟨w.heap.size + 1, 0, none⟩ = some (.int .i64 0) := box_cell (hs2.i (t := boxT (w.heap.size + 1) 31 #[.int .i64 0]) (by simp)) (i := 0) rfl
    refine ⟨.int .i64 0, ?_, ls, hs2.drop.drop, .inl ⟨rfl, ys, hys, hp⟩⟩
    simp [results, Tryz.f35, go_sem, hc5]
  case stop =>
    rintro D j pre W hD hpre ⟨rfl, ls, code, hh, hne, hp⟩ hK
    gi_wp2
    refine ⟨by simp, .inl ⟨_, _, rfl, run_takeDeferred hK, ?_⟩⟩
    have hs2 := HoldC.own (B := w.heap.size) hw0 (fun (_ : Unit) => boxT (w.heap.size + 1) 31 #[.int .i64 code] :: boxT w.heap.size 96 #[.func (.func 37) #[] #[.pointer (some ⟨bd, 0, none⟩)]] :: (gs ++ ls)) () _ _ _ hh (grownBy_putObj' _ D (.deferred none)) (fun r e => by cases e; exact ⟨by simp at hD; omega, _, hK, rfl⟩)
    have hc5 : (W.putObj D (.deferred none)).cell? ⟨w.heap.size + 1, 0, none⟩ = some (.int .i64 code) := box_cell (hs2.i (t := boxT (w.heap.size + 1) 31 #[.int .i64 code]) (by simp)) (i := 0) rfl
    refine ⟨.int .i64 code, ?_, ls, hs2.drop.drop, .inr ⟨pre, code, hpre, hne, rfl, hp⟩⟩
    simp [results, Tryz.f35, go_sem, hc5]
set_option maxRecDepth 100000 in
set_option maxHeartbeats 2000000 in
theorem first_2 (c : Cfg) (k : Int) (vals : List Value) (lb : Array Value) (bd : Nat) (F0 : Nat → Prop) (w0 w : World) (gs ls0 : List Thing)
    (P : List (Lof vals.length) → List Thing → Prop) (Px : List (Lof vals.length) → Int → List Thing → Prop)
    (h0 : HoldC F0 w0 w (gs ++ ls0)) (hP : P [] ls0)
    (hseq : ∀ (w1 : World) (m : Nat), 1 ≤ m → Below w.heap.size w w1 → SeqStopsK Fence.wide m Tryz.prog 63 lb (encL vals c k) (KeptG (manyT gs).F) (fun xs => UpTo xs ∧ xs.length = vals.length) UpTo vals.length w1)
    (hcall : ∀ (us : List Thing) (pre : List (Lof vals.length)) (ls : List Thing) (x : Lof vals.length) (W : World), HoldC F0 w0 W (us ++ (gs ++ ls)) → P pre ls → pre.length < vals.length →
      Calls Tryz.prog 38 #[vals[x.1]'x.2, .int .u64 (aboveV c x.1 k), .pointer (some ⟨bd, 0, none⟩)] W fun e W' => ∃ (code : Int) (ls' : List Thing), e = .returned (.int .i64 code) ∧ KeepsOthers W W' ∧ KeptG (manyT gs).F W W' ∧ HoldC F0 w0 W' (us ++ (gs ++ ls')) ∧ (code = 0 → P (pre ++ [x]) ls') ∧ (¬ code = 0 → Px (pre ++ [x]) code ls')) :
    Calls Tryz.prog 35 #[.func (.func 63) #[] lb, .func (.func 38) #[] #[.pointer (some ⟨bd, 0, none⟩)]] w fun e W' =>
      ∃ ls, HoldC F0 w0 W' (gs ++ ls) ∧ ((e = .returned (.int .i64 0) ∧ ∃ xs, (UpTo xs ∧ xs.length = vals.length) ∧ P xs ls) ∨ (∃ pre code, UpTo pre ∧ ¬ code = 0 ∧ e = .returned (.int .i64 code) ∧ Px pre code ls)) := by
  refine (callsIn_wide (n := 9)).1 ?_
  refine callsIn_of_wp_marks Tryz.func35 rfl trivial ?_ rfl
  simp only [Tryz.ntmps35, List.size_toArray, List.length_cons, List.length_nil, Nat.reduceAdd, Nat.reduceSub, Array.replicate_succ, Array.replicate_zero, List.push_toArray, List.append_toArray, List.nil_append, List.cons_append]
  gi_wp2
  have B1 : Below w.heap.size w (w.alloc (.cells #[.func (.func 38) #[] #[.pointer (some ⟨bd, 0, none⟩)]] 96)) := Lw.below_alloc (Below.refl _ _) _
  have B2 := Lw.below_alloc (Below.refl _ (w.alloc (.cells #[.func (.func 38) #[] #[.pointer (some ⟨bd, 0, none⟩)]] 96))) (.cells #[.int .i64 0] 31)
  have h1 := h0.push (boxT w.heap.size 96 #[.func (.func 38) #[] #[.pointer (some ⟨bd, 0, none⟩)]]) B1 (heap_alloc_new w _) (fun k hk => Nat.le_of_eq hk.symm) (cel_box (heap_alloc_new w _))
  have h2 := h1.push (boxT (w.heap.size + 1) 31 #[.int .i64 0]) B2 (by have := heap_alloc_new (w.alloc (.cells #[.func (.func 38) #[] #[.pointer (some ⟨bd, 0, none⟩)]] 96)) (.cells #[.int .i64 0] 31); rw [World.size_alloc] at this; exact this) (fun k hk => Nat.le_of_eq (by simp; exact hk.symm)) (cel_box (by have := heap_alloc_new (w.alloc (.cells #[.func (.func 38) #[] #[.pointer (some ⟨bd, 0, none⟩)]] 96)) (.cells #[.int .i64 0] 31); rw [World.size_alloc] at this; exact this))
  have hG : ∀ k, (manyT gs).F k → k < w.heap.size := fun k hk => by
    obtain ⟨t, ht, hk2⟩ := hk
    exact t.lt w (h0.i (List.mem_append_left _ ht)) k hk2
  have hw0 : w0.heap.size ≤ w.heap.size := h0.1.1.size
  have hI : ∀ (r : Int) (us : List Thing), OwnFrom w.heap.size (fun (_ : Unit) W => HoldC F0 w0 W us) := fun r us => HoldC.own hw0 (fun _ => us)
  refine wpIn_rangeFunc_ownG rfl (by omega) (gf := 63) (lb := lb) rfl trivial (enters_of Tryz.func63 (by kernel_rfl) rfl)
    (hseq _ (9 - 1) (by omega) (B1.trans (B2.mono (by simp)))) (fun h k => KeptG.trans h k) (KeptG.put (fun k hk => by have := hG k hk; simp; omega)) (Below.refl _ _) (fun _ => rfl)
    (fun pre W => ∃ ls, HoldC F0 w0 W (boxT (w.heap.size + 1) 31 #[.int .i64 0] :: boxT w.heap.size 96 #[.func (.func 38) #[] #[.pointer (some ⟨bd, 0, none⟩)]] :: (gs ++ ls)) ∧ P pre ls)
    (fun j pre W => j = .ret ∧ ∃ ls code, HoldC F0 w0 W (boxT (w.heap.size + 1) 31 #[.int .i64 code] :: boxT w.heap.size 96 #[.func (.func 38) #[] #[.pointer (some ⟨bd, 0, none⟩)]] :: (gs ++ ls)) ∧ ¬ code = 0 ∧ Px pre code ls)
    (by
      rintro s A B row ⟨ls, h, hp⟩ hg hr
      exact ⟨ls, HoldC.own (Nat.le_trans hw0 (by simp; omega)) (fun (_ : Unit) => _) () A B row h hg hr, hp⟩)
    (by
      rintro j s A B row ⟨hj, ls, code, h, hne, hp⟩ hg hr
      exact ⟨hj, ls, code, HoldC.own (Nat.le_trans hw0 (by simp; omega)) (fun (_ : Unit) => _) () A B row h hg hr, hne, hp⟩)
    ⟨ls0, h2, hP⟩
    (fun x => { tmps := #[.func (.func 63) #[] lb, .func (.func 38) #[] #[.pointer (some ⟨bd, 0, none⟩)], undef, .pointer (some ⟨w.heap.size, 0, none⟩), .pointer (some ⟨w.heap.size + 1, 0, none⟩), vals[x.1]'x.2, .int .u64 (aboveV c x.1 k), undef, .func (.func 63) #[] lb, vals[x.1]'x.2, .int .u64 (aboveV c x.1 k), undef, undef, undef, undef, undef, undef, undef], defers := [] }) ?assign ?body ?done ?stop
  case assign =>
    intro l x W K hK
    simp only [encL]
    gi_wp2
    exact hK
  case body =>
    rintro l pre x W ⟨ls, hh, hp⟩ hlen
    have b1 := box_cell (hh.i (t := boxT w.heap.size 96 #[.func (.func 38) #[] #[.pointer (some ⟨bd, 0, none⟩)]]) (by simp)) (i := 0) rfl
    gi_wp2_with (refine ⟨trivial, ?_⟩; gi_at_call 38; refine (CallsIn.inRound l (callsIn_wide.2 (hcall [boxT (w.heap.size + 1) 31 #[.int .i64 0], boxT w.heap.size 96 #[.func (.func 38) #[] #[.pointer (some ⟨bd, 0, none⟩)]]] pre ls x W hh hp hlen))).mono ?_; rintro e W' ⟨code, ls', rfl, hko, hkg, hh', hz, hnz⟩; have r1 : Boxed W' (w.heap.size + 1) 31 (.int .i64 0) := hh'.i (t := boxT (w.heap.size + 1) 31 #[.int .i64 0]) (by simp); have r2 := r1.cell; have r3 := r1.frozen)
    · rename_i hcc
      have hc0 : ¬ code = 0 := by simpa using hcc
      have hs := holdc_store (v' := .int .i64 code) (fs := []) hh'
      exact ⟨(hko.trans (KeepsOthers.setCell _ _ _)).from _, rfl, ls', code, hs, hc0, hnz hc0⟩
    · rename_i hcc
      have hc0 : code = 0 := by simpa using hcc
      exact ⟨hko.from _, hkg, ls', hh', hz hc0⟩
  case done =>
    rintro D ys W hD hys ⟨ls, hh, hp⟩ hK
    have r1 : Boxed W (w.heap.size + 1) 31 (.int .i64 0) := hh.i (t := boxT (w.heap.size + 1) 31 #[.int .i64 0]) (by simp)
    have r2 := r1.cell
    have r3 := r1.frozen
    gi_wp2
    have hs := holdc_store (v' := .int .i64 0) (fs := []) hh
    have hK' := (KeepsOthers.setCell W ⟨w.heap.size + 1, 0, none⟩ (.int .i64 0)).same D _ hK rfl
    refine ⟨by simp, .inl ⟨_, _, rfl, run_takeDeferred hK', ?_⟩⟩
    have hs2 := HoldC.own (B := w.heap.size) hw0 (fun (_ : Unit) => boxT (w.heap.size + 1) 31 #[.int .i64 0] :: boxT w.heap.size 96 #[.func (.func 38) #[] #[.pointer (some ⟨bd, 0, none⟩)]] :: (gs ++ ls)) () _ _ _ hs (grownBy_putObj' _ D (.deferred none)) (fun r e => by cases e; exact ⟨by simp at hD; omega, _, hK', rfl⟩)
    have hc5 : (((W.setCell ⟨w.heap.size + 1, 0, none⟩ (.int .i64 0)).putObj D (.deferred none))).cell? ⟨w.heap.size + 1, 0, none⟩ = some (.int .i64 0) := box_cell (hs2.i (t := boxT (w.heap.size + 1) 31 #[.int .i64 0]) (by simp)) (i := 0) rfl
    refine ⟨.int .i64 0, ?_, ls, hs2.drop.drop, .inl ⟨rfl, ys, hys, hp⟩⟩
    simp [results, Tryz.f35, go_sem, hc5]
  case stop =>
    rintro D j pre W hD hpre ⟨rfl, ls, code, hh, hne, hp⟩ hK
    gi_wp2
    refine ⟨by simp, .inl ⟨_, _, rfl, run_takeDeferred hK, ?_⟩⟩
    have hs2 := HoldC.own (B := w.heap.size) hw0 (fun (_ : Unit) => boxT (w.heap.size + 1) 31 #[.int .i64 code] :: boxT w.heap.size 96 #[.func (.func 38) #[] #[.pointer (some ⟨bd, 0, none⟩)]] :: (gs ++ ls)) () _ _ _ hh (grownBy_putObj' _ D (.deferred none)) (fun r e => by cases e; exact ⟨by simp at hD; omega, _, hK, rfl⟩)
    have hc5 : (W.putObj D (.deferred none)).cell? ⟨w.heap.size + 1, 0, none⟩ = some (.int .i64 code) := box_cell (hs2.i (t := boxT (w.heap.size + 1) 31 #[.int .i64 code]) (by simp)) (i := 0) rfl
    refine ⟨.int .i64 code, ?_, ls, hs2.drop.drop, .inr ⟨pre, code, hpre, hne, rfl, hp⟩⟩
    simp [results, Tryz.f35, go_sem, hc5]
end Go.Proofs.YtmdkdjgamhaeoaaGreat.Stk
/- What Point and Total tell of a stack that was fed. Printed by wip/gen/stk5.py. -/
namespace Go.Proofs.YtmdkdjgamhaeoaaGreat.Stk
open Go Go.RowKit Lw Grd Lin Con Shp Sk Exa Lev
set_option linter.unusedVariables false
set_option linter.unusedSimpArgs false
theorem st_ex {c : Cfg} {us : Ups} {n : Nat} {i : Int} (hx : exactB c n = true) (i0 : 0 ≤ i) (hi : i < keys c n) : lsPtV c n (stOf c us n) i = hasK i (upN us n) := by
  have hk : ((keys c n).toNat : Int) = keys c n := Int.toNat_of_nonneg (by omega)
  unfold stOf
  rw [if_pos hx]
  show Exa.ptV (sums (keys c n).toNat (upN us n)) i = _
  unfold Exa.ptV
  rw [if_neg (by rw [sums_len, hk]; omega)]
  unfold num
  rw [sums_get (show i.toNat < (keys c n).toNat by omega)]
  show hasK ((i.toNat : Nat) : Int) (upN us n) = _
  rw [Int.toNat_of_nonneg i0]
theorem st_pc {c : Cfg} {us : Ups} {n : Nat} {i : Int} (i0 : 0 ≤ i) (hi : i < keys c n) : lsPtC c n (stOf c us n) i = 0 := by
  have hk : ((keys c n).toNat : Int) = keys c n := Int.toNat_of_nonneg (by omega)
  unfold stOf
  split
  · show Exa.ptC (sums (keys c n).toNat (upN us n)) i = 0
    unfold Exa.ptC
    rw [if_neg (by rw [sums_len, hk]; omega)]
  · show ptCode c n i = 0
    exact if_neg (by omega)
theorem sp_at {c : Cfg} (hr : IsRight c) (us : Ups) {n : Nat} (hn : (n : Int) ≤ c.bt) (i : Int) : spV c (stsOf c us) n i = lsPtV c n (stOf c us n) i ∧ spC c (stsOf c us) n i = lsPtC c n (stOf c us n) i := by
  have hb := hr.1
  have h1 := stsOf_get (c := c) (us := us) (n := n) (by omega)
  unfold spV spC
  rw [if_pos (by omega), if_pos (by omega), Int.toNat_natCast, h1]
  exact ⟨rfl, rfl⟩
end Go.Proofs.YtmdkdjgamhaeoaaGreat.Stk
/- The document's Plain: has no key less than 0? What no prefix is told less than. Printed by wip/gen/stk7.py. -/
namespace Go.Proofs.YtmdkdjgamhaeoaaGreat.Stk
open Go Go.RowKit Lw Grd Lin Con Shp Sk Exa Lev
set_option linter.unusedVariables false
set_option linter.unusedSimpArgs false
theorem upN_zero (us : Ups) : upN us 0 = us := by
  unfold upN
  have h : ∀ u : Int × Int, (upK u.1 0, u.2) = u := fun u => by
    unfold upK
    rw [Nat.pow_zero]
    show (u.1 / (1 : Int), u.2) = u
    rw [Int.ediv_one]
  rw [List.map_congr_left (g := id) (fun u _ => h u), List.map_id]
/-- Has no key less than 0? -/
def plainB (us : Ups) : Bool := us.all (fun u => decide (0 ≤ hasK u.1 us))
theorem plain_of {us : Ups} (h : plainB us = true) : ∀ u ∈ us, 0 ≤ hasK u.1 us := fun u hu => of_decide_eq_true (List.all_eq_true.1 h u hu)
theorem has_up_filter (q i : Int) (n : Nat) : ∀ us : Ups, hasK i (upN us n) = (if upK q n = i then hasK q us else 0) + hasK i (upN (us.filter (fun u => u.1 ≠ q)) n)
  | [] => by simp [hasK, upN]
  | u :: us => by
    have ih := has_up_filter q i n us
    have e : hasK i (upN (u :: us) n) = (if upK u.1 n = i then u.2 else 0) + hasK i (upN us n) := rfl
    by_cases h : u.1 = q
    · rw [List.filter_cons_of_neg (by simp [h]), e, ih, h]
      simp only [hasK]
      rw [if_pos h]
      split <;> omega
    · rw [List.filter_cons_of_pos (by simp [h]), e, ih]
      have e2 : hasK i (upN (u :: us.filter (fun u => u.1 ≠ q)) n) = (if upK u.1 n = i then u.2 else 0) + hasK i (upN (us.filter (fun u => u.1 ≠ q)) n) := rfl
      rw [e2]
      simp only [hasK]
      rw [if_neg h]
      split <;> split <;> omega
theorem has_up_nn (n : Nat) (i : Int) : ∀ (m : Nat) (us : Ups), us.length ≤ m → (∀ u ∈ us, 0 ≤ hasK u.1 us) → 0 ≤ hasK i (upN us n)
  | _, [], _, _ => by simp [hasK, upN]
  | 0, u :: us, h, _ => by simp at h
  | m + 1, u :: us, h, hn => by
    have hlen : ((u :: us).filter (fun v => v.1 ≠ u.1)).length ≤ m := by
      rw [List.filter_cons_of_neg (by simp)]
      have := List.length_filter_le (fun v : Int × Int => decide (v.1 ≠ u.1)) us
      simp at h
      omega
    have hf : ∀ v ∈ (u :: us).filter (fun v => v.1 ≠ u.1), 0 ≤ hasK v.1 ((u :: us).filter (fun v => v.1 ≠ u.1)) := by
      intro v hv
      obtain ⟨h1, h2⟩ := List.mem_filter.1 hv
      rw [hasK_filter v.1 u.1 (by simpa using h2)]
      exact hn v h1
    have ih := has_up_nn n i m _ hlen hf
    have h3 := hn u (by simp)
    rw [has_up_filter u.1 i n (u :: us)]
    split <;> omega
/-- No prefix is told less than it has. -/
theorem over_le {c : Cfg} (hr : IsRight c) (hm : c.md ≠ 3) {us : Ups} (h : UpsIn c 0 us) (hp : plainB us = true) {n : Nat} (hn : (n : Int) ≤ c.bt) {i : Int} (i0 : 0 ≤ i) (hi : i < keys c n) : hasK i (upN us n) ≤ lsPtV c n (stOf c us n) i := by
  have hu := upN_in hr h hn
  by_cases hx : exactB c n = true
  · rw [st_ex hx i0 hi]
    exact Int.le_refl _
  · unfold stOf
    rw [if_neg hx]
    show hasK i (upN us n) ≤ ptVal c n (cells c n (upN us n)) i
    rw [pt_least hi hm]
    have hme := cols_meet i0 hi
    by_cases h2 : c.md = 2
    · rw [cells_con h2]
      have r1 := rose_all (rose_zero (rws c) (wds c)) (opsU_ok hu.1) (plus_of hu h2)
      have h3 := r1.lea_own hme
      rw [List.nil_append] at h3
      exact Int.le_trans (hasK_own hu.1 (hu.2 h2)) h3.1
    · rw [cells_lin h2]
      have hsz := chAll_sz (sz_zeros (rws c) (wds c)) (opsU_ok hu.1)
      obtain ⟨j, hj⟩ := List.getElem?_of_mem (lea_mem hsz hme).1
      have hjl := (List.getElem?_eq_some_iff.1 hj).1
      have hjr : j < rws c := by
        unfold named at hjl
        rw [List.length_zipWith, hsz.1] at hjl
        omega
      rw [named_key hu.1 i0 hi hjr] at hj
      injection hj with hj
      rw [← hj]
      have h5 := othK_nn c n i j _ (upN us n) (Nat.le_refl _) (fun u hu2 => has_up_nn n u.1 _ us (Nat.le_refl _) (plain_of hp))
      omega
theorem fld_key (U D : Int) (w : World) : (Instr.field 38 (.agg #[.int .u64 U, .int .i64 D]) 0).run Tryz.prog w = .ok (.int .u64 U) w := by kernel_rfl
theorem rhas_0 (c : Cfg) (A : Option Addr) (n0 k0 : Nat) (qs : Ups) (i : Int) (w : World) (hco : c.Ok) (hkeys : 1 ≤ keys c 0) (hq : UpdV w A n0 k0 qs) (i0 : 0 ≤ i) (i1 : i ≤ 18446744073709551615) :
    Calls Tryz.prog 27 #[.agg #[.int .i64 c.bt, .int .i64 c.rw, .int .i64 c.wd, .int .i64 c.md, .int .u64 c.sd], .slice A n0 k0, .agg #[.int .i64 0, .int .u64 i]] w fun e w' => e = .returned (.int .i64 (hasK i (upsR c 0 qs 0 60))) ∧ Below w.heap.size w w' := by
  have h := rhas_any c A n0 k0 qs 0 i w hco hkeys hq (by omega) i0 i1
  rw [upN_zero] at h
  exact h
set_option maxRecDepth 100000 in
set_option maxHeartbeats 4000000 in
theorem rplain_any (c : Cfg) (A : Option Addr) (n0 k0 : Nat) (qs : Ups) (w : World) (hco : c.Ok) (hkeys : 1 ≤ keys c 0) (hq : UpdV w A n0 k0 qs) :
    Calls Tryz.prog 25 #[.agg #[.int .i64 c.bt, .int .i64 c.rw, .int .i64 c.wd, .int .i64 c.md, .int .u64 c.sd], .slice A n0 k0] w fun e w' => e = .returned (.bool (plainB (upsR c 0 qs 0 60))) ∧ Below w.heap.size w w' := by
  have HQ := Lib.hid hq
  have HL := Lib.hid hq.len
  have hnc := hq.nc
  have hcm := hq.cm
  unfold maxLen at hcm
  have HKY := Lib.hid hkeys
  have hkk := keys_bd c 0
  have CC0 := Lib.hid (fun w k d h0 h1 h2 h3 => rcut15_any c k d w hco h0 h1 h2 h3 hkeys)
  have CH0 := Lib.hid (fun i w hq i0 i1 => rhas_0 c A n0 k0 qs i w hco hkeys hq i0 i1)
  obtain ⟨us, hus⟩ : ∃ us, upsR c 0 qs 0 60 = us := ⟨_, rfl⟩
  rw [hus] at CH0
  have HUS := Lib.hid hus
  rw [hus]
  have HBX : Hid (Have w (w.alloc (.cells #[.int .i64 c.bt, .int .i64 c.rw, .int .i64 c.wd, .int .i64 c.md, .int .u64 c.sd] 24)) [boxT w.heap.size 24 #[.int .i64 c.bt, .int .i64 c.rw, .int .i64 c.wd, .int .i64 c.md, .int .u64 c.sd]]) := Lib.hid (box_new w _ _)
  clear hq hkeys hco hus
  go_enter Tryz.func25, Tryz.ntmps25
  go_wp2
  go_loopw [5] (fun iv wr => ∃ (j : Nat), j ≤ n0 ∧ j ≤ 60 ∧ iv = .int .i64 j ∧ (∀ u ∈ upsR c 0 qs 0 j, 0 ≤ hasK u.1 us) ∧ Have w wr [boxT w.heap.size 24 #[.int .i64 c.bt, .int .i64 c.rw, .int .i64 c.wd, .int .i64 c.md, .int .u64 c.sd]]) (fun iv _ => n0 - (intOf iv).toNat)
  case atStart => exact ⟨0, Nat.zero_le _, Nat.zero_le _, rfl, by rw [upsR_zero]; simp, HBX.out⟩
  case round =>
    obtain ⟨j, hj, hj6, rfl, hall, hv⟩ := hrel
    have HVr := Lib.hid hv
    have HALL := Lib.hid hall
    have hwb := hv.below
    clear hv hall
    by_cases hlt : j < n0 ∧ j < 60
    · obtain ⟨hj1, hj2⟩ := hlt
      obtain ⟨q, hq1⟩ : ∃ q, qs[j]? = some q := ⟨_, List.getElem?_eq_getElem (by rw [HL.out]; omega)⟩
      have hnx := upsR_next (c := c) (l := 0) hq1 (Nat.zero_le j)
      have hcu := cutU_ok HKY.out q
      have hmem : cutU c 0 q ∈ us := by
        rw [← HUS.out]
        unfold upsR
        refine List.mem_map.2 ⟨q, ?_, rfl⟩
        rw [List.drop_zero]
        exact List.mem_of_getElem? (i := j) (by rw [List.getElem?_take, if_pos (by omega)]; exact hq1)
      obtain ⟨a, g, o, rfl, hadd, d1w, d2w, kb, db⟩ := HQ.out.at hq1
      obtain ⟨qk, qd⟩ := q
      simp only at d1w d2w kb db
      have d1 := cell_up d1w hwb
      have d2 := cell_up d2w hwb
      obtain ⟨e1, e2, e3, e4, e5⟩ := box5 HVr.out.i0
      have CC := Lib.hid (fun w => CC0.out w qk qd kb.1 kb.2 db.1 db.2)
      have HCU := Lib.hid hcu
      have HMEM := Lib.hid hmem
      have HNX := Lib.hid hnx
      obtain ⟨U, hU⟩ : ∃ U, (cutU c 0 (qk, qd)).1 = U := ⟨_, rfl⟩
      obtain ⟨D, hD⟩ : ∃ D, (cutU c 0 (qk, qd)).2 = D := ⟨_, rfl⟩
      have hT : cutU c 0 (qk, qd) = (U, D) := by rw [← hU, ← hD]
      rw [hU, hD] at CC
      rw [hT] at HCU HMEM HNX
      have CH := Lib.hid (fun w hq => CH0.out U w hq HCU.out.1 (by have := HCU.out.2.1; simp only at this; omega))
      obtain ⟨Y, hY⟩ : ∃ Y, hasK U us = Y := ⟨_, rfl⟩
      rw [hY] at CH
      have HY := Lib.hid hY
      clear hq1 hnx hcu hmem hT hU hD hY d1w d2w hkk
      have hfd := fld_key U D
      by_cases hneg : Y < 0
      · have dn : decide (Y < 0) = true := decide_eq_true hneg
        have HF : Hid (plainB us = false) := Lib.hid (by
          unfold plainB
          refine List.all_eq_false.2 ⟨(U, D), HMEM.out, ?_⟩
          show ¬ decide (0 ≤ hasK U us) = true
          rw [HY.out]
          exact fun h => by have := of_decide_eq_true h; omega)
        go_upto_region 4 with fail
        go_region_held3 (fun w' => w'.cell? ⟨w.heap.size, 0, none⟩ = some (.int .i64 c.bt) ∧ w'.cell? ⟨w.heap.size, 1, none⟩ = some (.int .i64 c.rw) ∧ w'.cell? ⟨w.heap.size, 2, none⟩ = some (.int .i64 c.wd) ∧ w'.cell? ⟨w.heap.size, 3, none⟩ = some (.int .i64 c.md) ∧ w'.cell? ⟨w.heap.size, 4, none⟩ = some (.int .u64 c.sd) ∧ w'.cell? ⟨g, o, none⟩ = some (.int .u64 qk) ∧ w'.cell? ⟨g, o + 1, none⟩ = some (.int .i64 qd)) (first | (refine ⟨?_, ?_, ?_, ?_, ?_, ?_, ?_⟩ <;> (first | (with_reducible assumption) | (with_reducible refine cell_up e1 ?_) | (with_reducible refine cell_up e2 ?_) | (with_reducible refine cell_up e3 ?_) | (with_reducible refine cell_up e4 ?_) | (with_reducible refine cell_up e5 ?_) | (with_reducible refine cell_up d1 ?_) | (with_reducible refine cell_up d2 ?_)) <;> (repeat' (first | (with_reducible exact Below.refl _ _) | (with_reducible assumption) | (with_reducible refine below_over ?_ _ _) | (with_reducible refine Lw.below_alloc ?_ _) | (with_reducible refine Below.drew ?_) | (with_reducible refine below_drewN ?_ _) | (with_reducible refine Below.setCell ?_ ?_ _) | go_size)))) (first
          | (go_at_call 27; (with_reducible refine (CH.out _ (HQ.out.up (HVr.out.up (by repeat' (first | (with_reducible exact Below.refl _ _) | (with_reducible assumption) | (with_reducible refine below_over ?_ _ _) | (with_reducible refine Lw.below_alloc ?_ _) | (with_reducible refine Below.drew ?_) | (with_reducible refine below_drewN ?_ _) | (with_reducible refine Below.setCell ?_ ?_ _) | go_size))).below)).mono ?_); rintro e w'' ⟨rfl, hb⟩; obtain ⟨bs2, dd2, rfl⟩ := below_grow hb; clear hb)
          | (go_at_call 26; (with_reducible refine (CC.out _).mono ?_); rintro e w' ⟨rfl, hb⟩; obtain ⟨bs, dd, rfl⟩ := below_grow hb; clear hb))
        all_goals go_wp2
        all_goals go_ret
        all_goals exact ⟨ret_bs HF.out.symm, (HVr.out.up (by repeat' (first | (with_reducible exact Below.refl _ _) | (with_reducible assumption) | (with_reducible refine below_over ?_ _ _) | (with_reducible refine Lw.below_alloc ?_ _) | (with_reducible refine Below.drew ?_) | (with_reducible refine below_drewN ?_ _) | (with_reducible refine Below.setCell ?_ ?_ _) | go_size))).below⟩
      · have dn : decide (Y < 0) = false := decide_eq_false hneg
        have HN : Hid (∀ u ∈ upsR c 0 qs 0 (j + 1), 0 ≤ hasK u.1 us) := Lib.hid (fun u hu => by
          rw [HNX.out] at hu
          rcases List.mem_append.1 hu with h | h
          · exact HALL.out u h
          · rw [List.mem_singleton.1 h]
            show 0 ≤ hasK U us
            rw [HY.out]
            omega)
        go_upto_region 4 with fail
        go_region_held3 (fun w' => w'.cell? ⟨w.heap.size, 0, none⟩ = some (.int .i64 c.bt) ∧ w'.cell? ⟨w.heap.size, 1, none⟩ = some (.int .i64 c.rw) ∧ w'.cell? ⟨w.heap.size, 2, none⟩ = some (.int .i64 c.wd) ∧ w'.cell? ⟨w.heap.size, 3, none⟩ = some (.int .i64 c.md) ∧ w'.cell? ⟨w.heap.size, 4, none⟩ = some (.int .u64 c.sd) ∧ w'.cell? ⟨g, o, none⟩ = some (.int .u64 qk) ∧ w'.cell? ⟨g, o + 1, none⟩ = some (.int .i64 qd)) (first | (refine ⟨?_, ?_, ?_, ?_, ?_, ?_, ?_⟩ <;> (first | (with_reducible assumption) | (with_reducible refine cell_up e1 ?_) | (with_reducible refine cell_up e2 ?_) | (with_reducible refine cell_up e3 ?_) | (with_reducible refine cell_up e4 ?_) | (with_reducible refine cell_up e5 ?_) | (with_reducible refine cell_up d1 ?_) | (with_reducible refine cell_up d2 ?_)) <;> (repeat' (first | (with_reducible exact Below.refl _ _) | (with_reducible assumption) | (with_reducible refine below_over ?_ _ _) | (with_reducible refine Lw.below_alloc ?_ _) | (with_reducible refine Below.drew ?_) | (with_reducible refine below_drewN ?_ _) | (with_reducible refine Below.setCell ?_ ?_ _) | go_size)))) (first
          | (go_at_call 27; (with_reducible refine (CH.out _ (HQ.out.up (HVr.out.up (by repeat' (first | (with_reducible exact Below.refl _ _) | (with_reducible assumption) | (with_reducible refine below_over ?_ _ _) | (with_reducible refine Lw.below_alloc ?_ _) | (with_reducible refine Below.drew ?_) | (with_reducible refine below_drewN ?_ _) | (with_reducible refine Below.setCell ?_ ?_ _) | go_size))).below)).mono ?_); rintro e w'' ⟨rfl, hb⟩; obtain ⟨bs2, dd2, rfl⟩ := below_grow hb; clear hb)
          | (go_at_call 26; (with_reducible refine (CC.out _).mono ?_); rintro e w' ⟨rfl, hb⟩; obtain ⟨bs, dd, rfl⟩ := below_grow hb; clear hb))
        all_goals go_wp2
        all_goals go_roundw
        all_goals first
          | exact ⟨j + 1, by omega, by omega, by go_num, HN.out, HVr.out.up (by repeat' (first | (with_reducible exact Below.refl _ _) | (with_reducible assumption) | (with_reducible refine below_over ?_ _ _) | (with_reducible refine Lw.below_alloc ?_ _) | (with_reducible refine Below.drew ?_) | (with_reducible refine below_drewN ?_ _) | (with_reducible refine Below.setCell ?_ ?_ _) | go_size))⟩
          | (simp [intOf]; omega)
    · have hend : upsR c 0 qs 0 j = us := by rw [← HUS.out]; exact upsR_end hj6 (by rw [HL.out]; omega)
      have hall := HALL.out
      rw [hend] at hall
      have HT : Hid (plainB us = true) := Lib.hid (List.all_eq_true.2 (fun u hu => decide_eq_true (hall u hu)))
      have hcases : ((j : Int) < n0 ∧ ¬ (j : Int) < 60) ∨ ¬ (j : Int) < n0 := by omega
      clear hend hall hlt
      rcases hcases with ⟨hc1, hc2⟩ | hc1
      all_goals go_wp2
      all_goals go_ret
      all_goals exact ⟨ret_bs HT.out.symm, (HVr.out.up (by repeat' (first | (with_reducible exact Below.refl _ _) | (with_reducible assumption) | (with_reducible refine below_over ?_ _ _) | (with_reducible refine Lw.below_alloc ?_ _) | (with_reducible refine Below.drew ?_) | (with_reducible refine below_drewN ?_ _) | (with_reducible refine Below.setCell ?_ ?_ _) | go_size))).below⟩
end Go.Proofs.YtmdkdjgamhaeoaaGreat.Stk
/- What spans of stacks that were fed have, in numbers. For stages from 16 on. -/
namespace Go.Proofs.YtmdkdjgamhaeoaaGreat.Spn
open Go Go.RowKit Lw Grd Lin Con Shp Sk Exa Lev Stk Pcs
set_option linter.unusedVariables false
theorem cel_within {b : Int} {L : List (List Int)} (hb : 0 ≤ b) (h : Within b L) (r v : Nat) : -b ≤ cel L r v ∧ cel L r v ≤ b := by
  unfold cel
  cases h1 : L[r]? with
  | none => simp; omega
  | some x =>
    simp only [Option.getD_some]
    cases h2 : x[v]? with
    | none => simp; omega
    | some y => exact h x (List.mem_of_getElem? h1) y (List.mem_of_getElem? h2)
theorem cells_within {c : Cfg} {n : Int} {us : Ups} (h : UpsIn c n us) (hl : us.length ≤ 60) : Within 65970697666560 (cells c n us) := by
  by_cases h2 : c.md = 2
  · rw [cells_con h2]
    exact (rose_dims (opsU_ok h.1) (plus_of h h2) (by rw [opsU_len]; exact hl)).2
  · rw [cells_lin h2]
    exact within_mono (chAll_within (c := 1099511627776) (by omega) (b := 0) (Int.le_refl _) (within_zeros (rws c) (wds c)) (opsU_ok h.1)) (c := 65970697666560) (by rw [opsU_len]; omega)
theorem named_within {b : Int} (hb : 0 ≤ b) : ∀ {L : List (List Int)} {cs : List Int}, Within b L → ∀ v ∈ named L cs, -b ≤ v ∧ v ≤ b
  | [], _, _ => fun v hv => by simp [named] at hv
  | _ :: _, [], _ => fun v hv => by simp [named] at hv
  | r :: L, k :: cs, h => fun v hv => by
    rcases List.mem_cons.1 (show v ∈ (r[k.toNat]?.getD 0) :: named L cs from hv) with e | e
    · subst e
      cases h1 : r[k.toNat]? with
      | none => simp; omega
      | some y => exact h r (by simp) y (List.mem_of_getElem? h1)
    · exact named_within hb (fun x hx => h x (List.mem_cons_of_mem _ hx)) v e
theorem pt_bd {c : Cfg} (hr : IsRight c) {us : Ups} (h : UpsIn c 0 us) (hl : us.length ≤ 60) {n : Nat} (hn : (n : Int) ≤ c.bt) {i : Int} (i0 : 0 ≤ i) (hi : i < keys c n) : -65970697666560 ≤ lsPtV c n (stOf c us n) i ∧ lsPtV c n (stOf c us n) i ≤ 65970697666560 := by
  have hu := upN_in hr h hn
  by_cases hx : exactB c n = true
  · rw [st_ex hx i0 hi]
    have h2 := hasK_bd (k := i) (b := 1099511627776) (by omega) (us := upN us n) (fun v hv => ⟨(hu.1 v hv).2.2.1, (hu.1 v hv).2.2.2⟩)
    rw [upN_len] at h2
    omega
  · unfold stOf
    rw [if_neg hx]
    show _ ≤ ptVal c n (cells c n (upN us n)) i ∧ ptVal c n (cells c n (upN us n)) i ≤ _
    have hw := cells_within hu (by rw [upN_len]; exact hl)
    by_cases hm : c.md = 3
    · rw [pt_middle hi hm]
      exact Ord.kv_in _ _ _ _ (by omega) (by omega) (named_within (by omega) hw)
    rw [pt_least hi hm]
    obtain ⟨r, v, -, -, -, e⟩ := lea_is (cells_sz hu) (cols_meet i0 hi)
    rw [e]
    exact cel_within (by omega) hw r v
end Go.Proofs.YtmdkdjgamhaeoaaGreat.Spn
