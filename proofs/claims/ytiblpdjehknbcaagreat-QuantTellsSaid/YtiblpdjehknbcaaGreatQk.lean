/- Texts that the statement QuantTells leans on, put together: LevLoad, Lvl, Lrow, Cel, StkDef, SpnMath, QntMath, QntArr, StkCut, StkDst, StkHas. -/
import Derived.Test.YtiblpdjehknbcaaGreatMb
import Derived.Test.YtiblpdjehknbcaaGreatMg
import Derived.Test.YtiblpdjehknbcaaGreatMh
import Derived.Test.YtiblpdjehknbcaaGreatMi
import Derived.Test.YtiblpdjehknbcaaGreatQj
import Derived.Deep.LoopGhost
import Derived.Deep.RegionHeld3
import Derived.Deep.DeepCutAuto
import Derived.Deep.QuietTactic
import Derived.BigQuiet
import Derived.RangeFuncNested
import Derived.RangeFuncBound
import Derived.RangeFuncCalls
import Derived.RangeFuncLeaves
import Derived.Deep.MidRow
import Derived.Deep.WholeRow
import Derived.Laws.EntriesVeiled
import Derived.Maps.AppendAt
/- The walk of gaugerref13's Load. Printed by wip/gen/levload.py. -/
namespace Go.Proofs.YtiblpdjehknbcaaGreat.Lev
open Go Go.RowKit Lw Grd Lin Con Shp Sk Exa
set_option linter.unusedVariables false
set_option linter.unusedSimpArgs false
end Go.Proofs.YtiblpdjehknbcaaGreat.Lev
/- Levels of both kinds alike: what a level has (LS), the document's level (DLV), the code's (ELV). For stages from 15 on. Printed by wip/gen/lvl.py. -/
namespace Go.Proofs.YtiblpdjehknbcaaGreat.Stk
open Go Go.RowKit Lw Grd Lin Con Shp Sk Exa Lev
set_option linter.unusedVariables false
set_option linter.unusedSimpArgs false
/-- What a level has: an array's numbers, or a sketch's cells. -/
inductive LS where
  | A (L : List Int)
  | S (L : List (List Int))
def LS.fl : LS → List Int
  | .A L => L
  | .S L => L.flatten
def LS.ar : LS → Bool
  | .A _ => true
  | .S _ => false
def lsZero (c : Cfg) (l : Int) : LS := if exactB c l = true then .A (List.replicate (keys c l).toNat 0) else .S (zerosL (rws c) (wds c))
def lsCode (c : Cfg) (l : Int) (st : LS) (k d : Int) : Int := match st with
  | .A L => exCode c.md L k d
  | .S L => upCode c l L k d
def lsRes (c : Cfg) (l : Int) (st : LS) (k d : Int) : LS := match st with
  | .A L => .A (exRes c.md L k d)
  | .S L => .S (upRes c l L k d)
def lsPtV (c : Cfg) (l : Int) (st : LS) (k : Int) : Int := match st with
  | .A L => Exa.ptV L k
  | .S L => ptVal c l L k
def lsPtC (c : Cfg) (l : Int) (st : LS) (k : Int) : Int := match st with
  | .A L => Exa.ptC L k
  | .S _ => ptCode c l k
/-- The document's level. -/
def DLV (w : World) (p : Addr) (F : Nat → Prop) (c : Cfg) (l : Int) (st : LS) : Prop := exactB c l = st.ar ∧ match st with
  | .A L => DLA w p F c l L
  | .S L => DLS w p F c l L
theorem DLV.keep {w w' : World} {p : Addr} {F H : Nat → Prop} {c : Cfg} {l : Int} {st : LS} (h : DLV w p F c l st) (hk : Kept H w w') (hf : ∀ k, F k → ¬ H k) : DLV w' p F c l st := by
  refine ⟨h.1, ?_⟩
  cases st with
  | A L => exact (dlAT p F c l L).keep w w' H h.2 hk hf
  | S L => exact (dlST p F c l L).keep w w' H h.2 hk hf
def dlvT (p : Addr) (F : Nat → Prop) (c : Cfg) (l : Int) (st : LS) : Thing where
  I := fun w => DLV w p F c l st
  F := F
  keep := fun w w' H h hk hf => h.keep hk hf
  lt := fun w h k hk => by
    cases st with
    | A L => exact (dlAT p F c l L).lt w h.2 k hk
    | S L => exact (dlST p F c l L).lt w h.2 k hk
/-- The code's level, as the value that an interface holds. -/
def ELV (w : World) (v : Value) (F : Nat → Prop) (c : Cfg) (l : Int) (st : LS) : Prop := exactB c l = st.ar ∧ match st with
  | .A L => ∃ p, v = .iface 117 (.pointer (some p)) ∧ EX w p F c l L
  | .S L => ∃ p, v = .iface 120 (.pointer (some p)) ∧ SK w p F c l L
theorem ELV.keep {w w' : World} {v : Value} {F H : Nat → Prop} {c : Cfg} {l : Int} {st : LS} (h : ELV w v F c l st) (hk : Kept H w w') (hf : ∀ k, F k → ¬ H k) : ELV w' v F c l st := by
  refine ⟨h.1, ?_⟩
  cases st with
  | A L =>
    obtain ⟨p, e, h2⟩ := h.2
    exact ⟨p, e, h2.keep hk hf⟩
  | S L =>
    obtain ⟨p, e, h2⟩ := h.2
    exact ⟨p, e, (skT p F c l L).keep w w' H h2 hk hf⟩
def elvT (v : Value) (F : Nat → Prop) (c : Cfg) (l : Int) (st : LS) : Thing where
  I := fun w => ELV w v F c l st
  F := F
  keep := fun w w' H h hk hf => h.keep hk hf
  lt := fun w h k hk => by
    cases st with
    | A L =>
      obtain ⟨p, e, h2⟩ := h.2
      exact h2.lt k hk
    | S L =>
      obtain ⟨p, e, h2⟩ := h.2
      exact (skT p F c l L).lt w h2 k hk
theorem dv_new (c : Cfg) (l : Int) (w : World) (h : c.Ok) (hr : IsRight c) (l0 : 0 ≤ l) (l1 : l ≤ c.bt) :
    Calls Tryz.prog 31 #[.agg #[.int .i64 c.bt, .int .i64 c.rw, .int .i64 c.wd, .int .i64 c.md, .int .u64 c.sd], .int .i64 l] w fun e w' => ∃ (p : Addr) (F : Nat → Prop), e = .returned (.pointer (some p)) ∧ DLV w' p F c l (lsZero c l) ∧ (∀ k, F k → w.heap.size ≤ k) ∧ Below w.heap.size w w' := by
  unfold lsZero
  cases hx : exactB c l with
  | true =>
    rw [if_pos rfl]
    exact (lnew_A c l w h hr l0 l1 hx).mono (fun e w' ⟨p, F, h1, h2, h3, h4⟩ => ⟨p, F, h1, ⟨hx, h2⟩, h3, h4⟩)
  | false =>
    rw [if_neg (by simp)]
    exact (lnew_S c l w h hr l0 l1 hx).mono (fun e w' ⟨p, F, h1, h2, h3, h4⟩ => ⟨p, F, h1, ⟨hx, h2⟩, h3, h4⟩)
theorem dv_copy (p : Addr) (F : Nat → Prop) (c : Cfg) (l : Int) (st : LS) (w : World) (h : DLV w p F c l st) :
    Calls Tryz.prog 62 #[.pointer (some p)] w fun e w' => ∃ (q : Addr) (Q : Nat → Prop), e = .returned (.pointer (some q)) ∧ DLV w' q Q c l st ∧ (∀ k, Q k → w.heap.size ≤ k) ∧ Below w.heap.size w w' := by
  cases st with
  | A L => exact (lcopy_A p F c l L w h.2).mono (fun e w' ⟨q, Q, h1, h2, h3, h4⟩ => ⟨q, Q, h1, ⟨h.1, h2⟩, h3, h4⟩)
  | S L => exact (lcopy_S p F c l L w h.2).mono (fun e w' ⟨q, Q, h1, h2, h3, h4⟩ => ⟨q, Q, h1, ⟨h.1, h2⟩, h3, h4⟩)
theorem dv_upd (p : Addr) (F : Nat → Prop) (c : Cfg) (l : Int) (st : LS) (k d : Int) (w : World) (h : DLV w p F c l st) (k0 : 0 ≤ k) (k1 : k ≤ 18446744073709551615) (d0 : -9223372036854775808 ≤ d) (d1 : d ≤ 9223372036854775807) :
    Calls Tryz.prog 38 #[.pointer (some p), .int .u64 k, .int .i64 d] w fun e w' => e = .returned (.int .i64 (lsCode c l st k d)) ∧ ∃ F', DLV w' p F' c l (lsRes c l st k d) ∧ Kept F w w' ∧ (∀ q, F' q → F q ∨ w.heap.size ≤ q) := by
  cases st with
  | A L => exact (lupd_A p F c l L k d w h.2 k0 k1 d0 d1).mono (fun e w' ⟨h1, F', h2, h3, h4⟩ => ⟨h1, F', ⟨h.1, h2⟩, h3, h4⟩)
  | S L => exact (lupd_S p F c l L k d w h.2 k0 k1 d0 d1).mono (fun e w' ⟨h1, F', h2, h3, h4⟩ => ⟨h1, F', ⟨h.1, h2⟩, h3, h4⟩)
theorem dv_point (p : Addr) (F : Nat → Prop) (c : Cfg) (l : Int) (st : LS) (k : Int) (w : World) (h : DLV w p F c l st) (k0 : 0 ≤ k) (k1 : k ≤ 18446744073709551615) :
    Calls Tryz.prog 66 #[.pointer (some p), .int .u64 k] w fun e w' => e = .returned (.tuple #[.int .i64 (lsPtV c l st k), .int .i64 (lsPtC c l st k)]) ∧ Below w.heap.size w w' := by
  cases st with
  | A L => exact lpoint_A p F c l L k w h.2 k0 k1
  | S L => exact lpoint_S p F c l L k w h.2 k0 k1
theorem ev_new (c : Cfg) (l : Int) (w : World) (h : c.Ok) (hr : IsRight c) (l0 : 0 ≤ l) (l1 : l ≤ c.bt) :
    Calls Tryz.prog 30 #[.agg #[.int .i64 c.bt, .int .i64 c.rw, .int .i64 c.wd, .int .i64 c.md, .int .u64 c.sd], .int .i64 l] w fun e w' => ∃ (v : Value) (F : Nat → Prop), e = .returned (.tuple #[v, .int .i64 0]) ∧ ELV w' v F c l (lsZero c l) ∧ (∀ k, F k → w.heap.size ≤ k) ∧ Below w.heap.size w w' := by
  have hb := hr.2.1
  have hb1 := hr.1
  have hk : 1 ≤ keys c l := keys_pos.2 ⟨hr, l0, l1⟩
  unfold lsZero
  cases hx : exactB c l with
  | true =>
    rw [if_pos rfl]
    exact (vnew_A c l w h (by omega) (by omega) hx).mono (fun e w' ⟨p, F, h1, h2, h3, h4⟩ => ⟨_, F, h1, ⟨hx, p, rfl, h2⟩, h3, h4⟩)
  | false =>
    rw [if_neg (by simp)]
    exact (vnew_S c l w h (by omega) (by omega) hk hx).mono (fun e w' ⟨p, F, h1, h2, h3, h4⟩ => ⟨_, F, h1, ⟨hx, p, rfl, h2⟩, h3, h4⟩)
end Go.Proofs.YtiblpdjehknbcaaGreat.Stk
/- A row of levels: values, the things that they point to, and what each has. For stages from 15 on. -/
namespace Go.Proofs.YtiblpdjehknbcaaGreat.Stk
open Go Go.RowKit Lw Grd Lin Con Shp Sk Exa Lev
set_option linter.unusedVariables false
theorem set_split {α : Type} {ts : List α} {j : Nat} {t : α} (h : ts[j]? = some t) : ts = ts.take j ++ t :: ts.drop (j + 1) := by
  obtain ⟨h1, h2⟩ := List.getElem?_eq_some_iff.1 h
  rw [← h2]
  exact (List.take_append_drop j ts).symm.trans (by rw [List.drop_eq_getElem_cons h1])
theorem set_at {α : Type} {ts : List α} {j : Nat} {t t' : α} (h : ts[j]? = some t) : ts.set j t' = ts.take j ++ t' :: ts.drop (j + 1) := by
  obtain ⟨h1, h2⟩ := List.getElem?_eq_some_iff.1 h
  exact List.set_eq_take_append_cons_drop.trans (by rw [if_pos h1])
/-- One of the things of a row is turned by a call. -/
theorem Hold.set {F0 : Nat → Prop} {w0 w w' : World} {pre ts post : List Thing} {j : Nat} {t : Thing} (h : Hold F0 w0 w (pre ++ (ts ++ post))) (hj : ts[j]? = some t) (t' : Thing) (ht : t'.I w') (hk : Kept t.F w w') (hF : ∀ k, t'.F k → t.F k ∨ w.heap.size ≤ k) : Hold F0 w0 w' (pre ++ (ts.set j t' ++ post)) := by
  have e1 : pre ++ (ts ++ post) = (pre ++ ts.take j) ++ t :: (ts.drop (j + 1) ++ post) := by
    conv => lhs; rw [set_split hj]
    simp
  have e2 : pre ++ (ts.set j t' ++ post) = (pre ++ ts.take j) ++ t' :: (ts.drop (j + 1) ++ post) := by
    rw [set_at hj]
    simp
  rw [e1] at h
  rw [e2]
  exact h.turn t' ht hk hF
theorem Have.set {w0 w w' : World} {pre ts post : List Thing} {j : Nat} {t : Thing} (h : Have w0 w (pre ++ (ts ++ post))) (hj : ts[j]? = some t) (t' : Thing) (ht : t'.I w') (hk : Kept t.F w w') (hF : ∀ k, t'.F k → t.F k ∨ w.heap.size ≤ k) : Have w0 w' (pre ++ (ts.set j t' ++ post)) := by
  have e1 : pre ++ (ts ++ post) = (pre ++ ts.take j) ++ t :: (ts.drop (j + 1) ++ post) := by
    conv => lhs; rw [set_split hj]
    simp
  have e2 : pre ++ (ts.set j t' ++ post) = (pre ++ ts.take j) ++ t' :: (ts.drop (j + 1) ++ post) := by
    rw [set_at hj]
    simp
  rw [e1] at h
  rw [e2]
  exact Have.turnX t' ht hk hF h
/-- A row of levels, each made by mk of its value, its blocks, the config, its number and what it has. -/
structure LRow (mk : Value → (Nat → Prop) → Cfg → Int → LS → Thing) (c : Cfg) (vals : List Value) (ts : List Thing) (sts : List LS) : Prop where
  lv : vals.length = sts.length
  lt : ts.length = sts.length
  each : ∀ (j : Nat) (st : LS), sts[j]? = some st → ∃ v Q, vals[j]? = some v ∧ ts[j]? = some (mk v Q c (j : Int) st)
theorem LRow.nil (mk : Value → (Nat → Prop) → Cfg → Int → LS → Thing) (c : Cfg) : LRow mk c [] [] [] := ⟨rfl, rfl, fun j st h => by simp at h⟩
theorem LRow.snoc {mk : Value → (Nat → Prop) → Cfg → Int → LS → Thing} {c : Cfg} {vals : List Value} {ts : List Thing} {sts : List LS} (h : LRow mk c vals ts sts) {n : Nat} (hn : sts.length = n) (v : Value) (Q : Nat → Prop) (st : LS) : LRow mk c (vals ++ [v]) (ts ++ [mk v Q c (n : Int) st]) (sts ++ [st]) := by
  refine ⟨by simp [h.lv], by simp [h.lt], fun j s hj => ?_⟩
  rcases Nat.lt_or_ge j n with h1 | h1
  · rw [List.getElem?_append_left (by omega)] at hj
    obtain ⟨v2, Q2, h2, h3⟩ := h.each j s hj
    exact ⟨v2, Q2, by rw [List.getElem?_append_left (by rw [h.lv]; omega)]; exact h2, by rw [List.getElem?_append_left (by rw [h.lt]; omega)]; exact h3⟩
  · rw [List.getElem?_append_right (by omega), hn] at hj
    have e : j = n := by
      rcases Nat.eq_zero_or_pos (j - n) with h2 | h2
      · omega
      · rw [List.getElem?_eq_none (by simp; omega)] at hj
        cases hj
    subst e
    rw [Nat.sub_self] at hj
    simp at hj
    subst hj
    exact ⟨v, Q, by rw [List.getElem?_append_right (by rw [h.lv]; omega), h.lv, hn]; simp, by rw [List.getElem?_append_right (by rw [h.lt]; omega), h.lt, hn]; simp⟩
theorem LRow.put {mk : Value → (Nat → Prop) → Cfg → Int → LS → Thing} {c : Cfg} {vals : List Value} {ts : List Thing} {sts : List LS} (h : LRow mk c vals ts sts) {j : Nat} {v : Value} (hv : vals[j]? = some v) (Q : Nat → Prop) (st : LS) : LRow mk c vals (ts.set j (mk v Q c (j : Int) st)) (sts.set j st) := by
  have hj := (List.getElem?_eq_some_iff.1 hv).1
  refine ⟨by simp [h.lv], by simp [h.lt], fun i s hi => ?_⟩
  rw [List.getElem?_set] at hi
  by_cases hij : j = i
  · subst hij
    rw [if_pos rfl, if_pos (by rw [← h.lv]; exact hj)] at hi
    injection hi with hi
    subst hi
    exact ⟨v, Q, hv, by rw [List.getElem?_set, if_pos rfl, if_pos (by rw [h.lt, ← h.lv]; exact hj)]⟩
  · rw [if_neg hij] at hi
    obtain ⟨v2, Q2, h2, h3⟩ := h.each i s hi
    exact ⟨v2, Q2, h2, by rw [List.getElem?_set, if_neg hij]; exact h3⟩
theorem LRow.at {mk : Value → (Nat → Prop) → Cfg → Int → LS → Thing} {c : Cfg} {vals : List Value} {ts : List Thing} {sts : List LS} (h : LRow mk c vals ts sts) {j : Nat} (hj : j < sts.length) : ∃ st v Q, sts[j]? = some st ∧ vals[j]? = some v ∧ ts[j]? = some (mk v Q c (j : Int) st) := by
  obtain ⟨v, Q, h1, h2⟩ := h.each j _ (List.getElem?_eq_getElem hj)
  exact ⟨_, v, Q, List.getElem?_eq_getElem hj, h1, h2⟩
/-- The document's level, as the value that points to it. -/
def dlT (v : Value) (F : Nat → Prop) (c : Cfg) (l : Int) (st : LS) : Thing where
  I := fun w => ∃ p, v = .pointer (some p) ∧ DLV w p F c l st
  F := F
  keep := fun w w' H h hk hf => by
    obtain ⟨p, e, h2⟩ := h
    exact ⟨p, e, h2.keep hk hf⟩
  lt := fun w h k hk => by
    obtain ⟨p, e, h2⟩ := h
    exact (dlvT p F c l st).lt w h2 k hk
/-- A row that grows: a slice of one's own, by its header. -/
def ownT (B : Nat) (e : TypeId) (hdr : Value) (vals : List Value) : Thing where
  I := fun w => w.ownsRow B e 1 hdr vals.length vals
  F := fun k => hdr.ownBlock = some k
  keep := fun w w' H h hk hf => hk.own h (fun q hq => hf q hq)
  lt := fun w h k hk => own_lt h hk
end Go.Proofs.YtiblpdjehknbcaaGreat.Stk
/- Things whose blocks hold cells: a range over a function turns its own records, which are none, and leaves them. For stages from 15 on. -/
namespace Go.Proofs.YtiblpdjehknbcaaGreat.Stk
open Go Go.RowKit Lw Grd Lin Con Shp Sk Exa Lev
set_option linter.unusedVariables false
/-- Each block of F holds cells. -/
def Cel (F : Nat → Prop) (w : World) : Prop := ∀ k, F k → ∃ o : Obj, w.heap[k]? = some o ∧ o.isCells = true
theorem cel_mid {w : World} {g i : Nat} {Z : List Int} (h : Ord.Mid w g i Z) : ∃ o : Obj, w.heap[g]? = some o ∧ o.isCells = true := by
  obtain ⟨vs, e, h1, h2⟩ := h
  exact ⟨_, h1, rfl⟩
theorem cel_pg {w : World} {p : Addr} {F : Nat → Prop} {m n : Nat} {L : List (List Int)} (h : PG w p F m n L) : Cel F w := by
  obtain ⟨hd, b, g, cap, rfl, hb, hm, h1, h2, h3, rfl⟩ := h
  rintro k (rfl | rfl)
  · exact ⟨_, hb, rfl⟩
  · exact cel_mid hm
theorem cel_ex {w : World} {p : Addr} {F : Nat → Prop} {c : Cfg} {l : Int} {L : List Int} (h : EX w p F c l L) : Cel F w := by
  obtain ⟨hr, hok, hl0, hl1, hlk, hn1, hn8, b, gp, G, rfl, hb, hg, hGb, rfl⟩ := h
  rintro k (rfl | hk)
  · exact ⟨_, hb, rfl⟩
  · exact cel_pg hg k hk
theorem cel_sk {w : World} {p : Addr} {F : Nat → Prop} {c : Cfg} {l : Int} {L : List (List Int)} (h : SK w p F c l L) : Cel F w := by
  obtain ⟨hr, hok, hl0, hl1, b, gp, G, rfl, hb, hg, hGb, rfl⟩ := h
  rintro k (rfl | hk)
  · exact ⟨_, hb, rfl⟩
  · exact cel_pg hg k hk
theorem cel_elv {w : World} {v : Value} {F : Nat → Prop} {c : Cfg} {l : Int} {st : LS} (h : ELV w v F c l st) : Cel F w := by
  cases st with
  | A L =>
    obtain ⟨p, e, h2⟩ := h.2
    exact cel_ex h2
  | S L =>
    obtain ⟨p, e, h2⟩ := h.2
    exact cel_sk h2
theorem cel_box {w : World} {b : Nat} {e : TypeId} {vs : Array Value} (h : (boxT b e vs).I w) : Cel (boxT b e vs).F w := by
  rintro k hk
  have hk2 : k = b := hk
  subst hk2
  exact ⟨_, h, rfl⟩
theorem cel_own {w : World} {B : Nat} {e : TypeId} {hdr : Value} {vals : List Value} (h : (ownT B e hdr vals).I w) : Cel (ownT B e hdr vals).F w := by
  rintro k hk
  have h2 : w.ownsRow B e 1 hdr vals.length vals := h
  have hk2 : hdr.ownBlock = some k := hk
  rcases h2.2 with h0 | ⟨g, cap, cur, rfl, hb, hg, h3⟩
  · rw [h0.1] at hk2
    cases hk2
  · have h4 : some g = some k := hk2
    injection h4 with h4
    subst h4
    exact ⟨_, hg, rfl⟩
/-- A block that is no cells is none of a thing's. -/
theorem Thing.turned {t : Thing} {w w' : World} {row : Option Nat} (h : t.I w) (hc : Cel t.F w) (hg : w.grownBy w' row) (hr : ∀ r, row = some r → ∃ o : Obj, w.heap[r]? = some o ∧ o.isCells = false) : t.I w' ∧ Cel t.F w' := by
  have hne : ∀ k, t.F k → ¬ row = some k := fun k hk e => by
    obtain ⟨o, h1, h2⟩ := hc k hk
    obtain ⟨o', h3, h4⟩ := hr k e
    rw [h1] at h3
    injection h3 with h3
    subst h3
    rw [h2] at h4
    cases h4
  refine ⟨t.keep w w' (fun k => row = some k) h ((Kept.refl _ w).grown hg (fun q e => .inl e)) hne, fun k hk => ?_⟩
  obtain ⟨o, h1, h2⟩ := hc k hk
  exact ⟨o, (hg.block k (t.lt w h k hk) (fun e => hne k hk e.symm)).trans h1, h2⟩
/-- Things held, each in blocks that hold cells. -/
def HoldC (F0 : Nat → Prop) (w0 w : World) (ts : List Thing) : Prop := Hold F0 w0 w ts ∧ ∀ t ∈ ts, Cel t.F w
theorem HoldC.own {β : Type} {F0 : Nat → Prop} {w0 : World} {B : Nat} (hB : w0.heap.size ≤ B) (ts : β → List Thing) : OwnFrom B (fun s W => HoldC F0 w0 W (ts s)) := by
  intro s W W' row h hg hr
  have hr2 : ∀ r, row = some r → ∃ o : Obj, W.heap[r]? = some o ∧ o.isCells = false := fun r e => (hr r e).2
  refine ⟨⟨Kept.grown h.1.1 hg (fun q e => .inr (Nat.le_trans hB (hr q e).1)), fun t ht => ⟨(Thing.turned (h.1.2.1 t ht).1 (h.2 t ht) hg hr2).1, (h.1.2.1 t ht).2⟩, h.1.2.2⟩, fun t ht => (Thing.turned (h.1.2.1 t ht).1 (h.2 t ht) hg hr2).2⟩
theorem HoldC.up {F0 : Nat → Prop} {w0 w w' : World} {ts : List Thing} (h : HoldC F0 w0 w ts) (hb : Below w.heap.size w w') : HoldC F0 w0 w' ts := by
  refine ⟨h.1.up hb, fun t ht k hk => ?_⟩
  obtain ⟨o, h1, h2⟩ := h.2 t ht k hk
  exact ⟨o, (hb.5 k (t.lt w (h.1.2.1 t ht).1 k hk)).trans h1, h2⟩
theorem HoldC.i {F0 : Nat → Prop} {w0 w : World} {ts : List Thing} (h : HoldC F0 w0 w ts) {t : Thing} (ht : t ∈ ts) : t.I w := h.1.i ht
theorem HoldC.push {F0 : Nat → Prop} {w0 w w' : World} {ts : List Thing} (h : HoldC F0 w0 w ts) (t : Thing) (hb : Below w.heap.size w w') (ht : t.I w') (hn : ∀ k, t.F k → w.heap.size ≤ k) (hc : Cel t.F w') : HoldC F0 w0 w' (t :: ts) := by
  refine ⟨h.1.push t hb ht hn, fun u hu => ?_⟩
  rcases List.mem_cons.1 hu with rfl | hu
  · exact hc
  · exact (h.up hb).2 u hu
/-- One of them is turned by a call. -/
theorem HoldC.turn {F0 : Nat → Prop} {w0 w w' : World} {fs : List Thing} {t : Thing} {ts : List Thing} (h : HoldC F0 w0 w (fs ++ t :: ts)) (t' : Thing) (ht : t'.I w') (hk : Kept t.F w w') (hF : ∀ k, t'.F k → t.F k ∨ w.heap.size ≤ k) (hc : Cel t'.F w') : HoldC F0 w0 w' (fs ++ t' :: ts) := by
  refine ⟨h.1.turn t' ht hk hF, fun u hu => ?_⟩
  have hap := Asun.append.1 h.1.2.2
  have hoth : u ∈ fs ∨ u ∈ ts → Cel u.F w' := by
    intro hu2 k h1
    have hin : u ∈ fs ++ t :: ts := by
      rcases hu2 with g | g <;> simp [g]
    obtain ⟨o, h2, h3⟩ := h.2 u hin k h1
    refine ⟨o, (hk.block k (u.lt w (h.i hin) k h1) (fun h4 => ?_)).trans h2, h3⟩
    rcases hu2 with g | g
    · exact hap.2.2 u g t (by simp) k h1 h4
    · exact hap.2.1.1 u g k h4 h1
  rcases List.mem_append.1 hu with g | g
  · exact hoth (.inl g)
  · rcases List.mem_cons.1 g with rfl | g
    · exact hc
    · exact hoth (.inr g)
theorem HoldC.set {F0 : Nat → Prop} {w0 w w' : World} {pre ts post : List Thing} {j : Nat} {t : Thing} (h : HoldC F0 w0 w (pre ++ (ts ++ post))) (hj : ts[j]? = some t) (t' : Thing) (ht : t'.I w') (hk : Kept t.F w w') (hF : ∀ k, t'.F k → t.F k ∨ w.heap.size ≤ k) (hc : Cel t'.F w') : HoldC F0 w0 w' (pre ++ (ts.set j t' ++ post)) := by
  have e1 := set_split hj
  have e2 := set_at (t' := t') hj
  rw [e2]
  rw [e1] at h
  have e3 : ∀ t : Thing, pre ++ ((ts.take j ++ t :: ts.drop (j + 1)) ++ post) = (pre ++ ts.take j) ++ t :: (ts.drop (j + 1) ++ post) := by simp
  rw [e3] at h ⊢
  exact h.turn t' ht hk hF hc
/-- What is turned is apart from what is beside it. -/
theorem HoldC.apart {F0 : Nat → Prop} {w0 w : World} {us gs ts : List Thing} (h : HoldC F0 w0 w (us ++ (gs ++ ts))) {t : Thing} (ht : t ∈ ts) {u : Thing} (hu : u ∈ gs) {k : Nat} (hk : u.F k) : ¬ t.F k :=
  ((Asun.append.1 (Asun.append.1 h.1.2.2).2.1).2.2 u hu t ht k hk)
/-- What a call that turns a thing leaves: all that is no cells. -/
theorem others_of {F : Nat → Prop} {w w' : World} (hk : Kept F w w') (hc : Cel F w) : KeepsOthers w w' :=
  ⟨hk.size, fun k o h1 h2 => by
    refine (hk.block k (size_of_heap h1) (fun h3 => ?_)).trans h1
    obtain ⟨o', h4, h5⟩ := hc k h3
    rw [h1] at h4
    injection h4 with h4
    subst h4
    rw [h2] at h5
    cases h5⟩
/-- What a round over levels keeps: the blocks that the iterator reads. -/
structure KeptG (G : Nat → Prop) (w w' : World) : Prop where
  size : w.heap.size ≤ w'.heap.size
  block : ∀ k, G k → w'.heap[k]? = w.heap[k]?
theorem KeptG.refl (G : Nat → Prop) (w : World) : KeptG G w w := ⟨Nat.le_refl _, fun _ _ => rfl⟩
theorem KeptG.trans {G : Nat → Prop} {x y z : World} (h : KeptG G x y) (k : KeptG G y z) : KeptG G x z := ⟨Nat.le_trans h.size k.size, fun i h1 => (k.block i h1).trans (h.block i h1)⟩
theorem KeptG.of_below {G : Nat → Prop} {w w' : World} (hG : ∀ k, G k → k < w.heap.size) (h : Below w.heap.size w w') : KeptG G w w' := ⟨h.4, fun k hk => h.5 k (hG k hk)⟩
theorem KeptG.of_kept {G F : Nat → Prop} {w w' : World} (hG : ∀ k, G k → k < w.heap.size) (h : Kept F w w') (hf : ∀ k, G k → ¬ F k) : KeptG G w w' := ⟨h.size, fun k hk => h.block k (hG k hk) (hf k hk)⟩
theorem KeptG.put {m : Nat} {G : Nat → Prop} (hm : ∀ k, G k → k < m) (W : World) (l : Nat) (o o' : Obj) (hl : m ≤ l) (h1 : W.heap[l]? = some o) (h2 : o.isCells = false) (h3 : o.isWalk = false) : KeptG G W (W.putObj l o') :=
  ⟨by simp, fun k hk => World.putObj_heap_other (by have := hm k hk; omega)⟩
theorem KeptG.cell {G : Nat → Prop} {w w' : World} (h : KeptG G w w') {a : Addr} {v : Value} (hc : w.cell? a = some v) (ha : G a.block) : w'.cell? a = some v := by
  rw [World.cell?_of_block (h.block a.block ha), hc]
end Go.Proofs.YtiblpdjehknbcaaGreat.Stk
/- What a stack has, in numbers: all levels updated, the first error of all, the levels that were fed. For stages from 15 on. -/
namespace Go.Proofs.YtiblpdjehknbcaaGreat.Stk
open Go Go.RowKit Lw Grd Lin Con Shp Sk Exa Lev
set_option linter.unusedVariables false
/-- The key to which a key belongs at a level. -/
def upK (k : Int) (n : Nat) : Int := k / ((2 ^ n : Nat) : Int)
/-- The first error of all levels from the n-th on. -/
def ers (c : Cfg) (k d : Int) : Nat → List LS → Int
  | _, [] => 0
  | n, st :: sts => if lsCode c n st (upK k n) d = 0 then ers c k d (n + 1) sts else lsCode c n st (upK k n) d
/-- All levels from the n-th on, updated. -/
def rss (c : Cfg) (k d : Int) : Nat → List LS → List LS
  | _, [] => []
  | n, st :: sts => lsRes c n st (upK k n) d :: rss c k d (n + 1) sts
theorem rss_len (c : Cfg) (k d : Int) : ∀ (n : Nat) (sts : List LS), (rss c k d n sts).length = sts.length
  | _, [] => rfl
  | n, st :: sts => by
    show (rss c k d (n + 1) sts).length + 1 = sts.length + 1
    rw [rss_len c k d (n + 1) sts]
theorem rss_get (c : Cfg) (k d : Int) : ∀ (n : Nat) (sts : List LS) (j : Nat) (st : LS), sts[j]? = some st → (rss c k d n sts)[j]? = some (lsRes c ((n + j : Nat) : Int) st (upK k (n + j)) d)
  | n, [], j, st, h => by simp at h
  | n, s :: sts, 0, st, h => by
    simp at h
    subst h
    rfl
  | n, s :: sts, j + 1, st, h => by
    have ih := rss_get c k d (n + 1) sts j st (by simpa using h)
    have e : n + 1 + j = n + (j + 1) := by omega
    rw [e] at ih
    simpa [rss] using ih
theorem ers_first (c : Cfg) (k d : Int) : ∀ (n : Nat) (sts : List LS) (j : Nat) (st : LS), (∀ (i : Nat) (s : LS), i < j → sts[i]? = some s → lsCode c ((n + i : Nat) : Int) s (upK k (n + i)) d = 0) → sts[j]? = some st → ¬ lsCode c ((n + j : Nat) : Int) st (upK k (n + j)) d = 0 → ers c k d n sts = lsCode c ((n + j : Nat) : Int) st (upK k (n + j)) d
  | n, [], j, st, _, h, _ => by simp at h
  | n, s :: sts, 0, st, _, h, hne => by
    simp at h
    subst h
    exact if_neg hne
  | n, s :: sts, j + 1, st, ha, h, hne => by
    have h0 : lsCode c (n : Int) s (upK k n) d = 0 := ha 0 s (by omega) rfl
    have e : n + 1 + j = n + (j + 1) := by omega
    have ih := ers_first c k d (n + 1) sts j st (fun i q hi hq => by
      have h1 := ha (i + 1) q (by omega) (by simpa using hq)
      have e2 : n + 1 + i = n + (i + 1) := by omega
      rw [e2]
      exact h1) (by simpa using h) (by rw [e]; exact hne)
    rw [e] at ih
    show (if lsCode c n s (upK k n) d = 0 then ers c k d (n + 1) sts else lsCode c n s (upK k n) d) = _
    rw [if_pos h0]
    exact ih
theorem ers_none (c : Cfg) (k d : Int) : ∀ (n : Nat) (sts : List LS), (∀ (i : Nat) (s : LS), sts[i]? = some s → lsCode c ((n + i : Nat) : Int) s (upK k (n + i)) d = 0) → ers c k d n sts = 0
  | n, [], _ => rfl
  | n, s :: sts, ha => by
    have h0 : lsCode c (n : Int) s (upK k n) d = 0 := ha 0 s rfl
    show (if lsCode c n s (upK k n) d = 0 then ers c k d (n + 1) sts else lsCode c n s (upK k n) d) = _
    rw [if_pos h0]
    refine ers_none c k d (n + 1) sts (fun i q hq => ?_)
    have h1 := ha (i + 1) q (by simpa using hq)
    have e2 : n + 1 + i = n + (i + 1) := by omega
    rw [e2]
    exact h1
theorem ers_ok (c : Cfg) (k d : Int) : ∀ (n : Nat) (sts : List LS), ers c k d n sts = 0 → ∀ (i : Nat) (s : LS), sts[i]? = some s → lsCode c ((n + i : Nat) : Int) s (upK k (n + i)) d = 0
  | n, [], _, i, s, h => by simp at h
  | n, s :: sts, he, i, q, h => by
    by_cases h0 : lsCode c n s (upK k n) d = 0
    · have he2 : ers c k d (n + 1) sts = 0 := by
        have h1 : ers c k d n (s :: sts) = ers c k d (n + 1) sts := if_pos h0
        rw [← h1]
        exact he
      cases i with
      | zero =>
        simp at h
        subst h
        exact h0
      | succ i =>
        have ih := ers_ok c k d (n + 1) sts he2 i q (by simpa using h)
        have e2 : n + 1 + i = n + (i + 1) := by omega
        rw [e2] at ih
        exact ih
    · have h1 : ers c k d n (s :: sts) = lsCode c n s (upK k n) d := if_neg h0
      rw [he] at h1
      exact absurd h1.symm h0
/-- What Update answers, and what it leaves. -/
def sucode (c : Cfg) (sts : List LS) (k d : Int) : Int := if keys c 0 ≤ k then 2 else if c.md = 2 ∧ d < 0 then 3 else ers c k d 0 sts
def sures (c : Cfg) (sts : List LS) (k d : Int) : List LS := if sucode c sts k d = 0 then rss c k d 0 sts else sts
/-- Updates as they reach a level. -/
def upN (us : Ups) (n : Nat) : Ups := us.map (fun u => (upK u.1 n, u.2))
theorem upN_app (us vs : Ups) (n : Nat) : upN (us ++ vs) n = upN us n ++ upN vs n := List.map_append
theorem upN_len (us : Ups) (n : Nat) : (upN us n).length = us.length := List.length_map _
theorem upK_keys {c : Cfg} (hr : IsRight c) {k : Int} {n : Nat} (h0 : 0 ≤ k) (hk : k < keys c 0) (hn : (n : Int) ≤ c.bt) : 0 ≤ upK k n ∧ upK k n < keys c n := by
  have hp : (0 : Int) < ((2 ^ n : Nat) : Int) := by
    have := Nat.one_le_two_pow (n := n)
    omega
  have hb := hr.1
  have e0 : keys c 0 = 2 ^ (c.bt - 0).toNat := keys_yes hr (by omega) (by omega)
  have e1 : keys c n = 2 ^ (c.bt - n).toNat := keys_yes hr (by omega) hn
  refine ⟨Int.ediv_nonneg h0 (Int.le_of_lt hp), ?_⟩
  unfold upK
  rw [Int.ediv_lt_iff_lt_mul hp, e1]
  have e2 : (2 : Int) ^ (c.bt - n).toNat * ((2 ^ n : Nat) : Int) = 2 ^ (c.bt - 0).toNat := by
    have e3 : (c.bt - 0).toNat = (c.bt - n).toNat + n := by omega
    rw [e3, Int.pow_add]
    simp
  rw [e2, ← e0]
  exact hk
theorem upN_in {c : Cfg} (hr : IsRight c) {us : Ups} (h : UpsIn c 0 us) {n : Nat} (hn : (n : Int) ≤ c.bt) : UpsIn c n (upN us n) := by
  refine ⟨fun u hu => ?_, fun hm u hu => ?_⟩
  · obtain ⟨v, hv, rfl⟩ := List.mem_map.1 hu
    have h1 := h.1 v hv
    have h2 := upK_keys hr h1.1 h1.2.1 hn
    exact ⟨h2.1, h2.2, h1.2.2⟩
  · obtain ⟨v, hv, rfl⟩ := List.mem_map.1 hu
    exact h.2 hm v hv
/-- A level that was fed. -/
def stOf (c : Cfg) (us : Ups) (n : Nat) : LS := if exactB c n = true then .A (sums (keys c n).toNat (upN us n)) else .S (cells c n (upN us n))
theorem stOf_nil (c : Cfg) (n : Nat) : stOf c [] n = lsZero c n := by
  unfold stOf lsZero upN
  split
  · rw [List.map_nil, sums_nil]
  · rw [List.map_nil, cells_nil]
/-- In the midst of sixty updates: the next one reaches the level. -/
theorem stOf_step {c : Cfg} (hr : IsRight c) {us : Ups} (h : UpsIn c 0 us) (hl : us.length ≤ 60) {u : Int × Int} (hu : UpsIn c 0 [u]) {n : Nat} (hn : (n : Int) ≤ c.bt) :
    lsCode c n (stOf c us n) (upK u.1 n) u.2 = 0 ∧ lsRes c n (stOf c us n) (upK u.1 n) u.2 = stOf c (us ++ [u]) n := by
  have h1 := upN_in hr h hn
  have h2 := upN_in hr hu hn
  have hu1 := h2.1 (upK u.1 n, u.2) (by simp [upN])
  have hl2 : (upN us n).length ≤ 60 := by rw [upN_len]; exact hl
  unfold stOf
  rw [upN_app]
  by_cases hx : exactB c n = true
  · rw [if_pos hx, if_pos hx]
    have hk : ((keys c n).toNat : Int) = keys c n := Int.toNat_of_nonneg (by omega)
    have hs := sums_step (md := c.md) (K := (keys c n).toNat) (us := upN us n) (u := (upK u.1 n, u.2)) hu1.1 (by rw [hk]; exact hu1.2.1) hl2 (fun v hv => by
      rcases List.mem_append.1 hv with h3 | h3
      · exact ⟨(h1.1 v h3).2.2.1, (h1.1 v h3).2.2.2⟩
      · rw [List.mem_singleton.1 h3]
        exact ⟨hu1.2.2.1, hu1.2.2.2⟩) (fun hm => h2.2 hm (upK u.1 n, u.2) (by simp [upN]))
    refine ⟨hs.1, ?_⟩
    show LS.A (exRes c.md _ _ _) = _
    rw [hs.2]
    rfl
  · rw [if_neg hx, if_neg hx]
    have hs := up_ok hr h1 hl2 (u := (upK u.1 n, u.2)) h2
    refine ⟨hs.1, ?_⟩
    show LS.S (upRes c n _ _ _) = _
    rw [hs.2]
    rfl
/-- All levels of a stack that was fed. -/
def stsOf (c : Cfg) (us : Ups) : List LS := (List.range (c.bt.toNat + 1)).map (stOf c us)
theorem stsOf_len (c : Cfg) (us : Ups) : (stsOf c us).length = c.bt.toNat + 1 := by unfold stsOf; simp
theorem stsOf_get {c : Cfg} {us : Ups} {n : Nat} (h : n < c.bt.toNat + 1) : (stsOf c us)[n]? = some (stOf c us n) := by
  unfold stsOf
  rw [List.getElem?_map, List.getElem?_range h]
  rfl
theorem stsOf_step {c : Cfg} (hr : IsRight c) {us : Ups} (h : UpsIn c 0 us) (hl : us.length ≤ 60) {u : Int × Int} (hu : UpsIn c 0 [u]) :
    sucode c (stsOf c us) u.1 u.2 = 0 ∧ sures c (stsOf c us) u.1 u.2 = stsOf c (us ++ [u]) := by
  have hb := hr.1
  have hu1 := hu.1 u (by simp)
  have e1 : ers c u.1 u.2 0 (stsOf c us) = 0 := by
    refine ers_none c u.1 u.2 0 _ (fun i s hi => ?_)
    have hi2 := (List.getElem?_eq_some_iff.1 hi).1
    rw [stsOf_len] at hi2
    rw [stsOf_get hi2] at hi
    injection hi with hi
    rw [Nat.zero_add, ← hi]
    exact (stOf_step hr h hl hu (by omega)).1
  have hk : ¬ keys c 0 ≤ u.1 := by omega
  have hm : ¬ (c.md = 2 ∧ u.2 < 0) := fun g => by have := hu.2 g.1 u (by simp); omega
  have e2 : sucode c (stsOf c us) u.1 u.2 = 0 := by
    unfold sucode
    rw [if_neg hk, if_neg hm]
    exact e1
  refine ⟨e2, ?_⟩
  unfold sures
  rw [if_pos e2]
  apply List.ext_getElem?
  intro j
  by_cases hj : j < c.bt.toNat + 1
  · rw [rss_get c u.1 u.2 0 _ j _ (stsOf_get hj), stsOf_get hj, Nat.zero_add]
    rw [(stOf_step hr h hl hu (by omega)).2]
  · rw [List.getElem?_eq_none (by rw [rss_len, stsOf_len]; omega), List.getElem?_eq_none (by rw [stsOf_len]; omega)]
end Go.Proofs.YtiblpdjehknbcaaGreat.Stk
/- Sums over the pieces of a span: what the pieces have is what the span has. For stages from 16 on. -/
namespace Go.Proofs.YtiblpdjehknbcaaGreat.Spn
open Go Go.RowKit Lw Grd Lin Con Shp Sk Exa Lev Stk Pcs
set_option linter.unusedVariables false
/-- What the keys from lo on, below e, have. -/
def btw (lo e : Nat) : Ups → Int
  | [] => 0
  | u :: us => (if (lo : Int) ≤ u.1 ∧ u.1 < (e : Int) then u.2 else 0) + btw lo e us
/-- The pieces of a span. -/
noncomputable def covL (n lo hi : Nat) : List (Nat × Nat) := by
  classical exact if h : ∃ l, Cov n (hi + 1) lo l then Classical.choose h else []
/-- What a span is told to have, and with what error. -/
noncomputable def parts (c : Cfg) (pt : Nat → Int → Int) (lo hi : Int) : List Int := (covL c.bt.toNat lo.toNat hi.toNat).map (fun p => pt p.1 ((p.2 : Nat) : Int))
def ptC2 (c : Cfg) (lo hi : Int) : Int := if hi < lo then 1 else if keys c 0 ≤ hi then 2 else 0
noncomputable def ptL (c : Cfg) (pt : Nat → Int → Int) (lo hi : Int) : List Int := if ptC2 c lo hi = 0 then parts c pt lo hi else []
noncomputable def rgC (c : Cfg) (pt : Nat → Int → Int) (lo hi : Int) : Int := if ptC2 c lo hi = 0 then (if Wid.fit64 (parts c pt lo hi).sum = true then 0 else 4) else ptC2 c lo hi
noncomputable def rgV (c : Cfg) (pt : Nat → Int → Int) (lo hi : Int) : Int := if rgC c pt lo hi = 0 then (parts c pt lo hi).sum else 0
end Go.Proofs.YtiblpdjehknbcaaGreat.Spn
/- The way to a rank's key, in numbers: what all keys below it have, and what it is told too much. For stages from 17 on. By hand. -/
namespace Go.Proofs.YtiblpdjehknbcaaGreat.Qnt
open Go Go.RowKit Lw Grd Lin Con Shp Sk Exa Lev Stk Pcs Spn
set_option linter.unusedVariables false
/-- The pieces with which one goes on, from the piece i of the level on; none: what is left of the rank does not fit. -/
def wayQ (pt : Nat → Int → Int) : Nat → Nat → Int → Option (List (Nat × Nat))
  | 0, i, _ => some [(0, i)]
  | L + 1, i, k =>
    if k ≤ pt L ((2 * i : Nat) : Int) then (wayQ pt L (2 * i) k).map (fun l => (L + 1, i) :: l)
    else if Wid.fit64 (k - pt L ((2 * i : Nat) : Int)) = true then (wayQ pt L (2 * i + 1) (k - pt L ((2 * i : Nat) : Int))).map (fun l => (L + 1, i) :: l)
    else none
/-- The way's last piece's index. -/
def keyQ (l : List (Nat × Nat)) : Nat := ((l.getLast?).map (fun p => p.2)).getD 0
theorem keyQ_cons (p : Nat × Nat) {l : List (Nat × Nat)} (h : l ≠ []) : keyQ (p :: l) = keyQ l := by
  unfold keyQ
  cases l with
  | nil => exact absurd rfl h
  | cons q l => simp
theorem wayQ_left {pt : Nat → Int → Int} {L i : Nat} {k : Int} (h : k ≤ pt L ((2 * i : Nat) : Int)) : wayQ pt (L + 1) i k = (wayQ pt L (2 * i) k).map (fun l => (L + 1, i) :: l) := by
  rw [wayQ, if_pos h]
theorem wayQ_right {pt : Nat → Int → Int} {L i : Nat} {k : Int} (h : ¬ k ≤ pt L ((2 * i : Nat) : Int)) (hf : Wid.fit64 (k - pt L ((2 * i : Nat) : Int)) = true) : wayQ pt (L + 1) i k = (wayQ pt L (2 * i + 1) (k - pt L ((2 * i : Nat) : Int))).map (fun l => (L + 1, i) :: l) := by
  rw [wayQ, if_neg h, if_pos hf]
theorem wayQ_none {pt : Nat → Int → Int} {L i : Nat} {k : Int} (h : ¬ k ≤ pt L ((2 * i : Nat) : Int)) (hf : Wid.fit64 (k - pt L ((2 * i : Nat) : Int)) = false) : wayQ pt (L + 1) i k = none := by
  rw [wayQ, if_neg h, if_neg (by rw [hf]; decide)]
/-- One piece more behind those that were gone through. -/
theorem way_push {pt : Nat → Int → Int} {L i j : Nat} {k m : Int} {xs : List (Nat × Nat)} {o : Option (List (Nat × Nat))} (h : o = (wayQ pt (L + 1) i k).map (fun l => xs ++ l)) (h2 : wayQ pt (L + 1) i k = (wayQ pt L j m).map (fun l => (L + 1, i) :: l)) : o = (wayQ pt L j m).map (fun l => (xs ++ [(L + 1, i)]) ++ l) := by
  rw [h, h2, Option.map_map]
  congr 1
  funext l
  simp
/-- A way from a piece down to a key, from half to half. -/
inductive Path : Nat → Nat → List (Nat × Nat) → Prop
  | key (i : Nat) : Path 0 i [(0, i)]
  | half {L i j : Nat} {l : List (Nat × Nat)} (hj : j = 2 * i ∨ j = 2 * i + 1) (h : Path L j l) : Path (L + 1) i ((L + 1, i) :: l)
theorem wayQ_path {pt : Nat → Int → Int} : ∀ {L i : Nat} {k : Int} {l : List (Nat × Nat)}, wayQ pt L i k = some l → Path L i l
  | 0, i, k, l, h => by
    injection h with h
    subst h
    exact .key i
  | L + 1, i, k, l, h => by
    by_cases h1 : k ≤ pt L ((2 * i : Nat) : Int)
    · rw [wayQ_left h1] at h
      obtain ⟨m, h2, rfl⟩ := Option.map_eq_some_iff.1 h
      exact .half (.inl rfl) (wayQ_path h2)
    · cases hf : Wid.fit64 (k - pt L ((2 * i : Nat) : Int)) with
      | true =>
        rw [wayQ_right h1 hf] at h
        obtain ⟨m, h2, rfl⟩ := Option.map_eq_some_iff.1 h
        exact .half (.inr rfl) (wayQ_path h2)
      | false =>
        rw [wayQ_none h1 hf] at h
        cases h
theorem Path.ne {L i : Nat} {l : List (Nat × Nat)} (h : Path L i l) : l ≠ [] := by
  cases h <;> simp
theorem Path.len {L i : Nat} {l : List (Nat × Nat)} (h : Path L i l) : l.length = L + 1 := by
  induction h with
  | key i => rfl
  | half hj h ih => rw [List.length_cons, ih]
theorem Path.first {L i : Nat} {l : List (Nat × Nat)} (h : Path L i l) : l[0]? = some (L, i) := by
  cases h <;> rfl
/-- The key lies in the piece. -/
theorem Path.in {L i : Nat} {l : List (Nat × Nat)} (h : Path L i l) : i * 2 ^ L ≤ keyQ l ∧ keyQ l < (i + 1) * 2 ^ L := by
  induction h with
  | key i =>
    show i * 2 ^ 0 ≤ i ∧ i < (i + 1) * 2 ^ 0
    rw [Nat.pow_zero]
    omega
  | @half L i j l hj h ih =>
    rw [keyQ_cons _ h.ne]
    have e1 : i * 2 ^ (L + 1) = (2 * i) * 2 ^ L := by rw [Nat.pow_succ, Nat.mul_comm 2 i, Nat.mul_assoc, Nat.mul_comm 2]
    have e2 : (i + 1) * 2 ^ (L + 1) = (2 * i + 1 + 1) * 2 ^ L := by
      have e3 : 2 * i + 1 + 1 = 2 * (i + 1) := by omega
      rw [e3, Nat.pow_succ, Nat.mul_comm 2 (i + 1), Nat.mul_assoc, Nat.mul_comm 2]
    have e4 : (2 * i + 1) * 2 ^ L = 2 * i * 2 ^ L + 2 ^ L := by rw [Nat.succ_mul]
    have e5 : (2 * i + 1 + 1) * 2 ^ L = 2 * i * 2 ^ L + 2 ^ L + 2 ^ L := by rw [Nat.succ_mul, Nat.succ_mul]
    have hp := Nat.two_pow_pos L
    rw [e1, e2, e5]
    rcases hj with rfl | rfl
    · rw [e4] at ih
      omega
    · rw [e4, e5] at ih
      omega
/-- Each piece of the way: its level, and of which it is a half. -/
theorem Path.at {L i : Nat} {l : List (Nat × Nat)} (h : Path L i l) : ∀ (j : Nat) (p : Nat × Nat), l[j]? = some p → p.1 + j = L ∧ i * 2 ^ j ≤ p.2 ∧ p.2 < (i + 1) * 2 ^ j := by
  induction h with
  | key i =>
    intro j p hj
    cases j with
    | zero =>
      simp at hj
      subst hj
      simp
    | succ j => simp at hj
  | @half L i j0 l hj h ih =>
    intro j p hjp
    cases j with
    | zero =>
      simp at hjp
      subst hjp
      simp
    | succ j =>
      have h2 := ih j p (by simpa using hjp)
      have hp := Nat.two_pow_pos j
      have e1 : i * 2 ^ (j + 1) = (2 * i) * 2 ^ j := by rw [Nat.pow_succ, Nat.mul_comm 2 i, Nat.mul_assoc, Nat.mul_comm 2]
      have e2 : (i + 1) * 2 ^ (j + 1) = (2 * i + 1 + 1) * 2 ^ j := by
        have e3 : 2 * i + 1 + 1 = 2 * (i + 1) := by omega
        rw [e3, Nat.pow_succ, Nat.mul_comm 2 (i + 1), Nat.mul_assoc, Nat.mul_comm 2]
      have e4 : (2 * i + 1) * 2 ^ j = 2 * i * 2 ^ j + 2 ^ j := by rw [Nat.succ_mul]
      have e5 : (2 * i + 1 + 1) * 2 ^ j = 2 * i * 2 ^ j + 2 ^ j + 2 ^ j := by rw [Nat.succ_mul, Nat.succ_mul]
      rw [e1, e2, e5]
      obtain ⟨g1, g2, g3⟩ := h2
      rcases hj with rfl | rfl
      · rw [e4] at g3
        omega
      · rw [e4] at g2
        rw [e5] at g3
        omega
theorem Path.next {L i : Nat} {l : List (Nat × Nat)} (h : Path L i l) : ∀ (j : Nat) (p q : Nat × Nat), l[j]? = some p → l[j + 1]? = some q → q.1 + 1 = p.1 ∧ (q.2 = 2 * p.2 ∨ q.2 = 2 * p.2 + 1) := by
  induction h with
  | key i =>
    intro j p q _ hq
    simp at hq
  | @half L i j0 l hj h ih =>
    intro j p q hp hq
    cases j with
    | zero =>
      simp at hp hq
      subst hp
      rw [h.first] at hq
      injection hq with hq
      subst hq
      exact ⟨rfl, hj⟩
    | succ j => exact ih j p q (by simpa using hp) (by simpa using hq)
theorem Path.last {L i : Nat} {l : List (Nat × Nat)} (h : Path L i l) : l[L]? = some (0, keyQ l) := by
  induction h with
  | key i => rfl
  | @half L i j l hj h ih =>
    rw [keyQ_cons _ h.ne]
    simpa using ih
/-- How much too much is told of a piece's first half. -/
def ovQ (pt : Nat → Int → Int) (us : Ups) (p : Nat × Nat) : Int := if p.1 = 0 then 0 else pt (p.1 - 1) ((2 * p.2 : Nat) : Int) - hasK ((2 * p.2 : Nat) : Int) (upN us (p.1 - 1))
/-- What Way and Quantile answer. -/
def qnC (c : Cfg) (pt : Nat → Int → Int) (k : Int) : Int := if k < 1 ∨ pt c.bt.toNat 0 < k then 6 else if (wayQ pt c.bt.toNat 0 k).isSome = true then 0 else 4
def qnL (c : Cfg) (pt : Nat → Int → Int) (k : Int) : List (Nat × Nat) := if qnC c pt k = 0 then (wayQ pt c.bt.toNat 0 k).getD [] else []
def qnV (c : Cfg) (pt : Nat → Int → Int) (k : Int) : Int := ((keyQ (qnL c pt k) : Nat) : Int)
theorem qn_yes {c : Cfg} {pt : Nat → Int → Int} {k : Int} {l : List (Nat × Nat)} (h1 : 1 ≤ k) (h2 : k ≤ pt c.bt.toNat 0) (h : wayQ pt c.bt.toNat 0 k = some l) : qnC c pt k = 0 ∧ qnL c pt k = l ∧ qnV c pt k = ((keyQ l : Nat) : Int) := by
  have e1 : qnC c pt k = 0 := by unfold qnC; rw [if_neg (by omega), h]; rfl
  have e2 : qnL c pt k = l := by unfold qnL; rw [if_pos e1, h]; rfl
  exact ⟨e1, e2, by unfold qnV; rw [e2]⟩
theorem qn_over {c : Cfg} {pt : Nat → Int → Int} {k : Int} (h1 : 1 ≤ k) (h2 : k ≤ pt c.bt.toNat 0) (h : wayQ pt c.bt.toNat 0 k = none) : qnC c pt k = 4 ∧ qnL c pt k = [] ∧ qnV c pt k = 0 := by
  have e1 : qnC c pt k = 4 := by unfold qnC; rw [if_neg (by omega), h]; rfl
  have e2 : qnL c pt k = [] := by unfold qnL; rw [if_neg (by omega)]
  exact ⟨e1, e2, by unfold qnV; rw [e2]; rfl⟩
theorem qn_rank {c : Cfg} {pt : Nat → Int → Int} {k : Int} (h : k < 1 ∨ pt c.bt.toNat 0 < k) : qnC c pt k = 6 ∧ qnL c pt k = [] ∧ qnV c pt k = 0 := by
  have e1 : qnC c pt k = 6 := by unfold qnC; rw [if_pos h]
  have e2 : qnL c pt k = [] := by unfold qnL; rw [if_neg (by omega)]
  exact ⟨e1, e2, by unfold qnV; rw [e2]; rfl⟩
end Go.Proofs.YtiblpdjehknbcaaGreat.Qnt
/- An array of sixty pieces, of which the first are laid. By hand. -/
namespace Go.Proofs.YtiblpdjehknbcaaGreat.Qnt
open Go Go.RowKit Lw
set_option linter.unusedVariables false
/-- The j-th cell of the array whose first pieces are these. -/
def celP (ps : List (Nat × Nat)) (j : Nat) : Value := if j % 2 = 0 then .int .i64 ((((ps[j / 2]?).map (fun p => p.1)).getD 0 : Nat) : Int) else .int .u64 ((((ps[j / 2]?).map (fun p => p.2)).getD 0 : Nat) : Int)
def arrP (ps : List (Nat × Nat)) : Array Value := ((List.range 120).map (celP ps)).toArray
theorem arrP_size (ps : List (Nat × Nat)) : (arrP ps).size = 120 := by unfold arrP; simp
theorem arrP_get {ps : List (Nat × Nat)} {j : Nat} (h : j < 120) : (arrP ps)[j]? = some (celP ps j) := by
  unfold arrP
  rw [List.getElem?_toArray, List.getElem?_map, List.getElem?_range h]
  rfl
theorem celP_lev {ps : List (Nat × Nat)} {j : Nat} {p : Nat × Nat} (h : ps[j]? = some p) : celP ps (j * 2) = .int .i64 (p.1 : Int) := by
  unfold celP
  rw [if_pos (by omega), Nat.mul_div_cancel _ (by omega), h]
  rfl
theorem celP_ix {ps : List (Nat × Nat)} {j : Nat} {p : Nat × Nat} (h : ps[j]? = some p) : celP ps (j * 2 + 1) = .int .u64 (p.2 : Int) := by
  have e : (j * 2 + 1) / 2 = j := by omega
  unfold celP
  rw [if_neg (by omega), e, h]
  rfl
theorem celP_one (ps : List (Nat × Nat)) (j : Nat) : (celP ps j).oneCell' = true := by
  unfold celP
  split <;> rfl
theorem arrP_one (ps : List (Nat × Nat)) : (arrP ps).all (·.oneCell') = true := by
  rw [Array.all_eq_true_iff_forall_mem]
  intro v hv
  unfold arrP at hv
  simp only [List.mem_toArray, List.mem_map] at hv
  obtain ⟨j, -, rfl⟩ := hv
  exact celP_one ps j
/-- One piece more. -/
theorem arrP_set {ps : List (Nat × Nat)} {j L i : Nat} (hl : ps.length = j) (hj : j < 60) : ((arrP ps).setIfInBounds (j * 2) (.int .i64 (L : Int))).setIfInBounds (j * 2 + 1) (.int .u64 (i : Int)) = arrP (ps ++ [(L, i)]) := by
  apply Array.ext_getElem?
  intro m
  rw [Array.getElem?_setIfInBounds, Array.getElem?_setIfInBounds]
  have hat : (ps ++ [(L, i)])[j]? = some (L, i) := by
    subst hl
    rw [List.getElem?_append_right (Nat.le_refl _)]
    simp
  by_cases hm : m < 120
  · rw [arrP_get hm, arrP_get hm]
    by_cases h1 : j * 2 + 1 = m
    · subst h1
      rw [if_pos rfl, if_pos (by rw [Array.size_setIfInBounds, arrP_size]; exact hm), celP_ix hat]
    · rw [if_neg h1]
      by_cases h2 : j * 2 = m
      · subst h2
        rw [if_pos rfl, if_pos (by rw [arrP_size]; exact hm), celP_lev hat]
      · rw [if_neg h2]
        congr 1
        unfold celP
        have h3 : m / 2 ≠ j := by omega
        have h4 : (ps ++ [(L, i)])[m / 2]? = ps[m / 2]? := by
          by_cases h5 : m / 2 < ps.length
          · rw [List.getElem?_append_left h5]
          · rw [List.getElem?_eq_none (by rw [List.length_append, List.length_singleton]; omega), List.getElem?_eq_none (by omega)]
        rw [h4]
  · have h1 : ¬ j * 2 + 1 = m := by omega
    have h2 : ¬ j * 2 = m := by omega
    rw [if_neg h1, if_neg h2, Array.getElem?_eq_none (by rw [arrP_size]; omega), Array.getElem?_eq_none (by rw [arrP_size]; omega)]
theorem celP_nil (j : Nat) : celP [] j = if j % 2 = 0 then .int .i64 0 else .int .u64 0 := by
  unfold celP
  split <;> rfl
theorem celP_nil_ix (j : Nat) : celP [] (j * 2 + 1) = .int .u64 0 := by
  rw [celP_nil, if_neg (by omega)]
/-- The pieces' cells, in order. -/
theorem flat_arr {ps : List (Nat × Nat)} (h : ps.length ≤ 60) : ∀ (j : Nat) (v : Value), (Pcs.flatP (Pcs.ints ps))[j]? = some v → (arrP ps)[j]? = some v := by
  intro j v hv
  have hlen : (Pcs.flatP (Pcs.ints ps)).length = 2 * ps.length := by rw [Pcs.flatP_len, Pcs.ints_len]
  have hj : j < 2 * ps.length := by
    have := (List.getElem?_eq_some_iff.1 hv).1
    omega
  rw [arrP_get (by omega)]
  obtain ⟨p, hp⟩ : ∃ p, ps[j / 2]? = some p := ⟨_, List.getElem?_eq_getElem (by omega)⟩
  have h2 := Pcs.flatP_get (Pcs.ints_get hp)
  by_cases hm : j % 2 = 0
  · have e : j = j / 2 * 2 := by omega
    rw [e] at hv ⊢
    rw [h2.1] at hv
    rw [celP_lev hp]
    exact hv
  · have e : j = j / 2 * 2 + 1 := by omega
    rw [e] at hv ⊢
    rw [h2.2] at hv
    rw [celP_ix hp]
    exact hv
theorem way_size : (Tryz.prog.info? 86).map (·.size) = some 120 := by kernel_rfl
theorem way_und : Tryz.prog.underlying 86 = some (.array 60 61) := by kernel_rfl
theorem way_zero : Tryz.zeroCells86 = arrP [] := by kernel_rfl
end Go.Proofs.YtiblpdjehknbcaaGreat.Qnt
/- The document's Cut of layer 15. Printed by wip/gen/stk.py. -/
namespace Go.Proofs.YtiblpdjehknbcaaGreat.Stk
open Go Go.RowKit Lw Grd Lin Con Shp Sk Exa Lev
set_option linter.unusedVariables false
set_option linter.unusedSimpArgs false
end Go.Proofs.YtiblpdjehknbcaaGreat.Stk
/- The document's stack as a thing. Printed by wip/gen/stk16.py. -/
namespace Go.Proofs.YtiblpdjehknbcaaGreat.Stk
open Go Go.RowKit Lw Grd Lin Con Shp Sk Exa Lev
set_option linter.unusedVariables false
set_option linter.unusedSimpArgs false
theorem dls_u : Tryz.prog.underlying 50 = some (.slice 49) := by kernel_rfl
theorem dls_info : (Tryz.prog.info? 49).map (fun i => (i.zero, i.size, i.bytes)) = some (some (.pointer none), 1, 8) := by kernel_rfl
theorem Asun.sub2 {ts us : List Thing} (h : ts.Sublist us) : Asun us → Asun ts := by
  induction h with
  | slnil => exact id
  | cons a h ih => exact fun g => ih g.2
  | cons_cons a h ih => exact fun g => ⟨fun u hu => g.1 u (h.subset hu), ih g.2⟩
theorem Hold.sub {F0 : Nat → Prop} {w0 w : World} {ts us : List Thing} (h : Hold F0 w0 w us) (hs : ts.Sublist us) : Hold F0 w0 w ts :=
  ⟨h.1, fun t ht => h.2.1 t (hs.subset ht), Asun.sub2 hs h.2.2⟩
theorem Hold.start0 {w w' : World} (h : Below w.heap.size w w') : Hold (fun _ => False) w w' [] := ⟨Kept.of_below h, fun t ht => by simp at ht, trivial⟩
theorem Hold.snoc {F0 : Nat → Prop} {w0 w w' : World} {ts : List Thing} (h : Hold F0 w0 w ts) (t : Thing) (hb : Below w.heap.size w w') (ht : t.I w') (hn : ∀ k, t.F k → w.heap.size ≤ k) : Hold F0 w0 w' (ts ++ [t]) := by
  have h2 := h.push t hb ht hn
  refine ⟨h2.1, fun u hu => h2.2.1 u (by simpa [or_comm] using hu), Asun.append.2 ⟨h2.2.2.2, ⟨fun u hu => by simp at hu, trivial⟩, fun u hu v hv k h3 h4 => ?_⟩⟩
  rw [List.mem_singleton.1 hv] at h4
  exact h2.2.2.1 u hu k h4 h3
theorem Hold.app {F0 : Nat → Prop} {w0 w w' : World} {fs ts : List Thing} {B : Nat} {e : TypeId} {hdr : Value} {vals : List Value} {v : Value} {g cap : Nat} (h : Hold F0 w0 w (fs ++ ownT B e hdr vals :: ts)) (own : w'.ownsRow B e 1 (.slice (some ⟨g, 0, none⟩) (vals.length + 1) cap) (vals.length + 1) (vals ++ [v])) (grow : w.grownBy w' hdr.ownBlock) (hat : hdr.ownBlock = some g ∨ g = w.heap.size) :
    Hold F0 w0 w' (fs ++ ownT B e (.slice (some ⟨g, 0, none⟩) (vals.length + 1) cap) (vals ++ [v]) :: ts) := by
  have hI : (ownT B e (.slice (some ⟨g, 0, none⟩) (vals.length + 1) cap) (vals ++ [v])).I w' := by
    show w'.ownsRow B e 1 _ (vals ++ [v]).length (vals ++ [v])
    rw [List.length_append, List.length_singleton]
    exact own
  refine h.turn _ hI ((Kept.refl _ w).grown grow (fun q e => .inl e)) (fun k hk => ?_)
  have hk2 : some g = some k := hk
  injection hk2 with hk2
  rcases hat with h1 | h1
  · exact .inl (show hdr.ownBlock = some k by rw [h1, hk2])
  · exact .inr (by omega)
theorem ownD_nil (B : Nat) (e : TypeId) (w : World) : (ownT B e (.slice none 0 0) []).I w := World.ownsRow_nil _ _ _ _
theorem ownD_nilF (B : Nat) (e : TypeId) {k m : Nat} (h : (ownT B e (.slice none 0 0) []).F k) : m ≤ k := by
  have h2 : (none : Option Nat) = some k := h
  cases h2
/-- A stack of the document, as a box. -/
abbrev dkB (b : Nat) (c : Cfg) (hdr : Value) : Thing := boxT b 52 #[.int .i64 c.bt, .int .i64 c.rw, .int .i64 c.wd, .int .i64 c.md, .int .u64 c.sd, hdr]
abbrev cfD (b : Nat) (c : Cfg) : Thing := boxT b 24 #[.int .i64 c.bt, .int .i64 c.rw, .int .i64 c.wd, .int .i64 c.md, .int .u64 c.sd]
theorem dkb_set {w : World} {b : Nat} {c : Cfg} {hdr hdr' : Value} (h : (dkB b c hdr).I w) : (dkB b c hdr').I (w.setCell ⟨b, 5, none⟩ hdr') := by
  have h2 : w.heap[b]? = some (.cells #[.int .i64 c.bt, .int .i64 c.rw, .int .i64 c.wd, .int .i64 c.md, .int .u64 c.sd, hdr] 52 (0, 0)) := h
  obtain ⟨hlt, hk⟩ := Array.getElem?_eq_some_iff.1 h2
  show (w.heap.modify b _)[b]? = _
  rw [Array.getElem?_eq_getElem (by rw [Array.size_modify]; exact hlt), Array.getElem_modify_self, hk]
  rfl
theorem Hold.store {F0 : Nat → Prop} {w0 w : World} {fs ts : List Thing} {b : Nat} {c : Cfg} {hdr : Value} (h : Hold F0 w0 w (fs ++ dkB b c hdr :: ts)) (hdr' : Value) : Hold F0 w0 (w.setCell ⟨b, 5, none⟩ hdr') (fs ++ dkB b c hdr' :: ts) := by
  have hb := dkb_set (hdr' := hdr') (h.i (t := dkB b c hdr) (by simp))
  exact h.turn (dkB b c hdr') hb (Kept.set (F := (dkB b c hdr).F) (Kept.refl _ _) (.inl rfl) 5 hdr') (fun k hk => .inl hk)
/-- A stack of the document at p, in the blocks F. -/
def DK (w : World) (p : Addr) (F : Nat → Prop) (c : Cfg) (sts : List LS) : Prop :=
  IsRight c ∧ c.Ok ∧ sts.length = c.bt.toNat + 1 ∧ ∃ (b B0 : Nat) (hdr : Value) (vals : List Value) (ts : List Thing), p = ⟨b, 0, none⟩ ∧ LRow dlT c vals ts sts ∧ (manyT (dkB b c hdr :: ownT B0 49 hdr vals :: ts)).I w ∧ F = (manyT (dkB b c hdr :: ownT B0 49 hdr vals :: ts)).F
def dkT (p : Addr) (F : Nat → Prop) (c : Cfg) (sts : List LS) : Thing where
  I := fun w => DK w p F c sts
  F := F
  keep := fun w w' H h hk hf => by
    obtain ⟨h1, h2, h3, b, B0, hdr, vals, ts, e, hr, hm, rfl⟩ := h
    exact ⟨h1, h2, h3, b, B0, hdr, vals, ts, e, hr, (manyT _).keep w w' H hm hk hf, rfl⟩
  lt := fun w h k hk => by
    obtain ⟨h1, h2, h3, b, B0, hdr, vals, ts, e, hr, hm, rfl⟩ := h
    exact (manyT _).lt w hm k hk
theorem dkI {w : World} {p : Addr} {F : Nat → Prop} {c : Cfg} {sts : List LS} (h : (dkT p F c sts).I w) : DK w p F c sts := h
theorem DK.right {w : World} {p : Addr} {F : Nat → Prop} {c : Cfg} {sts : List LS} (h : DK w p F c sts) : IsRight c ∧ c.Ok ∧ sts.length = c.bt.toNat + 1 := ⟨h.1, h.2.1, h.2.2.1⟩
theorem DK.up {w w' : World} {p : Addr} {F : Nat → Prop} {c : Cfg} {sts : List LS} (h : DK w p F c sts) (hb : Below w.heap.size w w') : DK w' p F c sts :=
  (dkT p F c sts).keep w w' (fun _ => False) h (Kept.of_below hb) (fun _ _ h => h)
theorem dk_of {F0 : Nat → Prop} {w0 w : World} {b B0 : Nat} {c : Cfg} {hdr : Value} {vals : List Value} {ts : List Thing} {sts : List LS} (hr : IsRight c) (hc : c.Ok) (hl : sts.length = c.bt.toNat + 1) (hrow : LRow dlT c vals ts sts) (h : Hold F0 w0 w (dkB b c hdr :: ownT B0 49 hdr vals :: ts)) :
    DK w ⟨b, 0, none⟩ (manyT (dkB b c hdr :: ownT B0 49 hdr vals :: ts)).F c sts ∧ Kept F0 w0 w ∧ ∀ q, (manyT (dkB b c hdr :: ownT B0 49 hdr vals :: ts)).F q → F0 q ∨ w0.heap.size ≤ q := by
  have h2 := h.many
  exact ⟨⟨hr, hc, hl, b, B0, hdr, vals, ts, rfl, hrow, h2.1, rfl⟩, h2.2.1, h2.2.2⟩
theorem ownD_cell {w : World} {B : Nat} {e : TypeId} {hdr : Value} {vals : List Value} (h : (ownT B e hdr vals).I w) (hl : 0 < vals.length) : ∃ g cap, hdr = .slice (some ⟨g, 0, none⟩) vals.length cap ∧ ∀ (j : Nat) (v : Value), vals[j]? = some v → w.cell? ⟨g, j, none⟩ = some v := by
  have h1 : w.ownsRow B e 1 hdr vals.length vals := h
  rcases h1.2 with h0 | ⟨g, cap, cur, rfl, h2, h3, h4, h5, h6⟩
  · have := h0.2
    rw [this] at hl
    simp at hl
  · refine ⟨g, cap, rfl, fun j v hj => ?_⟩
    have h7 := h1.cells (g := g) rfl j v hj
    cases j with
    | zero => simpa [Addr.add] using h7
    | succ j => simpa [Addr.add] using h7
theorem new_row {c : Cfg} {sts : List LS} {n : Nat} (hl : sts.length = n) (hj : ∀ j, j < n → sts[j]? = some (lsZero c j)) {j : Nat} (h : j < n + 1) : (sts ++ [lsZero c n])[j]? = some (lsZero c j) := by
  by_cases hj2 : j < n
  · rw [List.getElem?_append_left (by rw [hl]; exact hj2)]
    exact hj j hj2
  · obtain rfl : j = n := by omega
    rw [List.getElem?_append_right (by rw [hl]; exact Nat.le_refl _), hl, Nat.sub_self]
    rfl
theorem cfd_all {w' : World} {b : Nat} {c : Cfg} (h : (cfD b c).I w') : w'.cell? ⟨b, 0, none⟩ = some (.int .i64 c.bt) ∧ w'.cell? ⟨b, 1, none⟩ = some (.int .i64 c.rw) ∧ w'.cell? ⟨b, 2, none⟩ = some (.int .i64 c.wd) ∧ w'.cell? ⟨b, 3, none⟩ = some (.int .i64 c.md) ∧ w'.cell? ⟨b, 4, none⟩ = some (.int .u64 c.sd) := ⟨box_cell h rfl, box_cell h rfl, box_cell h rfl, box_cell h rfl, box_cell h rfl⟩
theorem take_next {α : Type} {ts : List α} {n : Nat} {t : α} (h : ts[n]? = some t) : ts.take (n + 1) = ts.take n ++ [t] := by
  obtain ⟨h1, h2⟩ := List.getElem?_eq_some_iff.1 h
  rw [List.take_succ_eq_append_getElem h1, h2]
theorem dlv_up {w w' : World} {p : Addr} {F : Nat → Prop} {c : Cfg} {l : Int} {st : LS} (h : DLV w p F c l st) (hb : Below w.heap.size w w') : DLV w' p F c l st := h.keep (Kept.of_below (F := fun _ => False) hb) (fun _ _ h => h)
theorem dk_at {b B0 : Nat} {c : Cfg} {hdr : Value} {vals : List Value} {ts : List Thing} {sts : List LS} {F0 : Nat → Prop} {w0 w : World} (hrow : LRow dlT c vals ts sts) (hH : Hold F0 w0 w (dkB b c hdr :: ownT B0 49 hdr vals :: ts)) {n : Nat} {st : LS} (hn : sts[n]? = some st) : ∃ p Q, vals[n]? = some (.pointer (some p)) ∧ DLV w p Q c (n : Int) st ∧ ts[n]? = some (dlT (.pointer (some p)) Q c (n : Int) st) := by
  obtain ⟨st2, v, Q, e1, e2, e3⟩ := hrow.at (j := n) ((List.getElem?_eq_some_iff.1 hn).1)
  rw [hn] at e1
  injection e1 with e1
  subst e1
  have h2 : (dlT v Q c (n : Int) st).I w := hH.i (t := dlT v Q c (n : Int) st) (List.mem_cons_of_mem _ (List.mem_cons_of_mem _ (List.mem_of_getElem? e3)))
  obtain ⟨p, rfl, h3⟩ := h2
  exact ⟨p, Q, e2, h3, e3⟩
/-- One value appended, in a region that draws its order: the row lies where it lay, or in a new block. -/
theorem appd_step {P : Program} {w : World} {ops : Array Oper} {o : Oper} {a : Act} {K : Act → World → Prop} {Q : Exit → Act → World → Prop} {E : Prop} (hgd : o.guard = none) (s x : Operand) (t : TypeId)
    (ho : o.op = .call { callee := .builtin .append, args := #[s, x], argTypes := #[t, t] })
    (base : Nat) (e : TypeId) (i : TypeInfo) (z : Value) (bytes : Nat) (ht : P.underlying t = some (.slice e)) (hi : P.info? e = some i) (hz : i.zero = some z) (hsize : i.size = 1) (hby : i.bytes = bytes) (hzs : z.cells.size = 1)
    (v : Value) (n : Nat) (xs : List Value) (hs : a.eval s = v) (hown : w.ownsRow base e 1 v n xs)
    (X : Value) (B : Nat) (hx : a.eval x = .slice (some ⟨B, 0, none⟩) 1 1) (hc : ∀ j u, ([X] : List Value)[j]? = some u → w.cell? ((⟨B, 0, none⟩ : Addr).add j) = some u) (hX : X.oneCell' = true) (h63 : n + 1 ≤ maxLen) (hbytes : (n + 1) * bytes ≤ 140737488355328) (hbase : base ≤ w.heap.size)
    (h : ∀ g cap w', w'.ownsRow base e 1 (.slice (some ⟨g, 0, none⟩) (n + 1) cap) (n + 1) (xs ++ [X]) → w.grownBy w' v.ownBlock → (v.ownBlock = some g ∨ g = w.heap.size) → K (a.put o.dst (.slice (some ⟨g, 0, none⟩) (n + 1) cap)) w') :
    if Region.wanted o (yielded ops a.tmps) = true then Oper.wp P o a w K Q else E := by
  rw [if_pos (by simp [Region.wanted, hgd])]
  obtain ⟨v', w', hr, h2, h3, h4, h5⟩ := run_append_own_at (P := P) w base t o.type e i z 1 bytes ht hi hz hsize hby hzs (by decide) v n xs hown ⟨B, 0, none⟩ 1 1 [X] rfl hc (by intro u hu; simp at hu; subst hu; exact hX) h63 hbytes hbase
  rcases h2.2 with ⟨h6, h7⟩ | ⟨g, cap, cur, rfl, h6⟩
  · simp at h7
  · unfold Oper.wp
    simp [execOp, ho, resolve, invoke, builtin, hs, hx, hr, Result.andThen]
    refine h g cap w' h2 h3 ?_
    rcases h5 with h8 | h8
    · exact .inl (show v.ownBlock = some g from h8.symm.trans rfl)
    · have h9 : some g = some w.heap.size := h8
      injection h9 with h9
      exact .inr h9
end Go.Proofs.YtiblpdjehknbcaaGreat.Stk
/- The document's Has: what the keys of a prefix have. Printed by wip/gen/stk3.py. -/
namespace Go.Proofs.YtiblpdjehknbcaaGreat.Stk
open Go Go.RowKit Lw Grd Lin Con Shp Sk Exa Lev
set_option linter.unusedVariables false
set_option linter.unusedSimpArgs false
end Go.Proofs.YtiblpdjehknbcaaGreat.Stk
