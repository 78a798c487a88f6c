/- Texts that statements lean on, put together: LevLoad, Lvl, Lrow, Cel, StkDef, SpnMath, QntMath, HvyMath, HvyHier, HvyDef, HvyAsk. -/
import Derived.Test.YtmdkdjgamhaeoaaGreatQa
import Derived.Test.YtmdkdjgamhaeoaaGreatQb
import Derived.Test.YtmdkdjgamhaeoaaGreatQg
import Derived.Test.YtmdkdjgamhaeoaaGreatQh
import Derived.Test.YtmdkdjgamhaeoaaGreatQi
import Derived.Test.YtmdkdjgamhaeoaaGreatQj
import Derived.Deep.LoopGhost
import Derived.Deep.RegionHeld3
import Derived.Deep.DeepCutAuto
import Derived.Deep.QuietTactic
import Derived.BigQuiet
import Derived.RangeFuncNested
import Derived.RangeFuncBound
import Derived.RangeFuncCalls
import Derived.RangeFuncLeaves
/- The walk of gaugerref13's Load. Printed by wip/gen/levload.py. -/
namespace Go.Proofs.YtmdkdjgamhaeoaaGreat.Lev
open Go Go.RowKit Lw Grd Lin Con Shp Sk Exa
set_option linter.unusedVariables false
set_option linter.unusedSimpArgs false
end Go.Proofs.YtmdkdjgamhaeoaaGreat.Lev
/- Levels of both kinds alike: what a level has (LS), the document's level (DLV), the code's (ELV). For stages from 15 on. Printed by wip/gen/lvl.py. -/
namespace Go.Proofs.YtmdkdjgamhaeoaaGreat.Stk
open Go Go.RowKit Lw Grd Lin Con Shp Sk Exa Lev
set_option linter.unusedVariables false
set_option linter.unusedSimpArgs false
/-- What a level has: an array's numbers, or a sketch's cells. -/
inductive LS where
  | A (L : List Int)
  | S (L : List (List Int))
def LS.fl : LS → List Int
  | .A L => L
  | .S L => L.flatten
def LS.ar : LS → Bool
  | .A _ => true
  | .S _ => false
def lsZero (c : Cfg) (l : Int) : LS := if exactB c l = true then .A (List.replicate (keys c l).toNat 0) else .S (zerosL (rws c) (wds c))
def lsCode (c : Cfg) (l : Int) (st : LS) (k d : Int) : Int := match st with
  | .A L => exCode c.md L k d
  | .S L => upCode c l L k d
def lsRes (c : Cfg) (l : Int) (st : LS) (k d : Int) : LS := match st with
  | .A L => .A (exRes c.md L k d)
  | .S L => .S (upRes c l L k d)
def lsPtV (c : Cfg) (l : Int) (st : LS) (k : Int) : Int := match st with
  | .A L => Exa.ptV L k
  | .S L => ptVal c l L k
def lsPtC (c : Cfg) (l : Int) (st : LS) (k : Int) : Int := match st with
  | .A L => Exa.ptC L k
  | .S _ => ptCode c l k
/-- The document's level. -/
def DLV (w : World) (p : Addr) (F : Nat → Prop) (c : Cfg) (l : Int) (st : LS) : Prop := exactB c l = st.ar ∧ match st with
  | .A L => DLA w p F c l L
  | .S L => DLS w p F c l L
theorem DLV.keep {w w' : World} {p : Addr} {F H : Nat → Prop} {c : Cfg} {l : Int} {st : LS} (h : DLV w p F c l st) (hk : Kept H w w') (hf : ∀ k, F k → ¬ H k) : DLV w' p F c l st := by
  refine ⟨h.1, ?_⟩
  cases st with
  | A L => exact (dlAT p F c l L).keep w w' H h.2 hk hf
  | S L => exact (dlST p F c l L).keep w w' H h.2 hk hf
def dlvT (p : Addr) (F : Nat → Prop) (c : Cfg) (l : Int) (st : LS) : Thing where
  I := fun w => DLV w p F c l st
  F := F
  keep := fun w w' H h hk hf => h.keep hk hf
  lt := fun w h k hk => by
    cases st with
    | A L => exact (dlAT p F c l L).lt w h.2 k hk
    | S L => exact (dlST p F c l L).lt w h.2 k hk
/-- The code's level, as the value that an interface holds. -/
def ELV (w : World) (v : Value) (F : Nat → Prop) (c : Cfg) (l : Int) (st : LS) : Prop := exactB c l = st.ar ∧ match st with
  | .A L => ∃ p, v = .iface 133 (.pointer (some p)) ∧ EX w p F c l L
  | .S L => ∃ p, v = .iface 136 (.pointer (some p)) ∧ SK w p F c l L
theorem ELV.keep {w w' : World} {v : Value} {F H : Nat → Prop} {c : Cfg} {l : Int} {st : LS} (h : ELV w v F c l st) (hk : Kept H w w') (hf : ∀ k, F k → ¬ H k) : ELV w' v F c l st := by
  refine ⟨h.1, ?_⟩
  cases st with
  | A L =>
    obtain ⟨p, e, h2⟩ := h.2
    exact ⟨p, e, h2.keep hk hf⟩
  | S L =>
    obtain ⟨p, e, h2⟩ := h.2
    exact ⟨p, e, (skT p F c l L).keep w w' H h2 hk hf⟩
def elvT (v : Value) (F : Nat → Prop) (c : Cfg) (l : Int) (st : LS) : Thing where
  I := fun w => ELV w v F c l st
  F := F
  keep := fun w w' H h hk hf => h.keep hk hf
  lt := fun w h k hk => by
    cases st with
    | A L =>
      obtain ⟨p, e, h2⟩ := h.2
      exact h2.lt k hk
    | S L =>
      obtain ⟨p, e, h2⟩ := h.2
      exact (skT p F c l L).lt w h2 k hk
theorem ev_new (c : Cfg) (l : Int) (w : World) (h : c.Ok) (hr : IsRight c) (l0 : 0 ≤ l) (l1 : l ≤ c.bt) :
    Calls Tryz.prog 32 #[.agg #[.int .i64 c.bt, .int .i64 c.rw, .int .i64 c.wd, .int .i64 c.md, .int .u64 c.sd], .int .i64 l] w fun e w' => ∃ (v : Value) (F : Nat → Prop), e = .returned (.tuple #[v, .int .i64 0]) ∧ ELV w' v F c l (lsZero c l) ∧ (∀ k, F k → w.heap.size ≤ k) ∧ Below w.heap.size w w' := by
  have hb := hr.2.1
  have hb1 := hr.1
  have hk : 1 ≤ keys c l := keys_pos.2 ⟨hr, l0, l1⟩
  unfold lsZero
  cases hx : exactB c l with
  | true =>
    rw [if_pos rfl]
    exact (vnew_A c l w h (by omega) (by omega) hx).mono (fun e w' ⟨p, F, h1, h2, h3, h4⟩ => ⟨_, F, h1, ⟨hx, p, rfl, h2⟩, h3, h4⟩)
  | false =>
    rw [if_neg (by simp)]
    exact (vnew_S c l w h (by omega) (by omega) hk hx).mono (fun e w' ⟨p, F, h1, h2, h3, h4⟩ => ⟨_, F, h1, ⟨hx, p, rfl, h2⟩, h3, h4⟩)
end Go.Proofs.YtmdkdjgamhaeoaaGreat.Stk
/- A row of levels: values, the things that they point to, and what each has. For stages from 15 on. -/
namespace Go.Proofs.YtmdkdjgamhaeoaaGreat.Stk
open Go Go.RowKit Lw Grd Lin Con Shp Sk Exa Lev
set_option linter.unusedVariables false
theorem set_split {α : Type} {ts : List α} {j : Nat} {t : α} (h : ts[j]? = some t) : ts = ts.take j ++ t :: ts.drop (j + 1) := by
  obtain ⟨h1, h2⟩ := List.getElem?_eq_some_iff.1 h
  rw [← h2]
  exact (List.take_append_drop j ts).symm.trans (by rw [List.drop_eq_getElem_cons h1])
theorem set_at {α : Type} {ts : List α} {j : Nat} {t t' : α} (h : ts[j]? = some t) : ts.set j t' = ts.take j ++ t' :: ts.drop (j + 1) := by
  obtain ⟨h1, h2⟩ := List.getElem?_eq_some_iff.1 h
  exact List.set_eq_take_append_cons_drop.trans (by rw [if_pos h1])
/-- One of the things of a row is turned by a call. -/
theorem Hold.set {F0 : Nat → Prop} {w0 w w' : World} {pre ts post : List Thing} {j : Nat} {t : Thing} (h : Hold F0 w0 w (pre ++ (ts ++ post))) (hj : ts[j]? = some t) (t' : Thing) (ht : t'.I w') (hk : Kept t.F w w') (hF : ∀ k, t'.F k → t.F k ∨ w.heap.size ≤ k) : Hold F0 w0 w' (pre ++ (ts.set j t' ++ post)) := by
  have e1 : pre ++ (ts ++ post) = (pre ++ ts.take j) ++ t :: (ts.drop (j + 1) ++ post) := by
    conv => lhs; rw [set_split hj]
    simp
  have e2 : pre ++ (ts.set j t' ++ post) = (pre ++ ts.take j) ++ t' :: (ts.drop (j + 1) ++ post) := by
    rw [set_at hj]
    simp
  rw [e1] at h
  rw [e2]
  exact h.turn t' ht hk hF
theorem Have.set {w0 w w' : World} {pre ts post : List Thing} {j : Nat} {t : Thing} (h : Have w0 w (pre ++ (ts ++ post))) (hj : ts[j]? = some t) (t' : Thing) (ht : t'.I w') (hk : Kept t.F w w') (hF : ∀ k, t'.F k → t.F k ∨ w.heap.size ≤ k) : Have w0 w' (pre ++ (ts.set j t' ++ post)) := by
  have e1 : pre ++ (ts ++ post) = (pre ++ ts.take j) ++ t :: (ts.drop (j + 1) ++ post) := by
    conv => lhs; rw [set_split hj]
    simp
  have e2 : pre ++ (ts.set j t' ++ post) = (pre ++ ts.take j) ++ t' :: (ts.drop (j + 1) ++ post) := by
    rw [set_at hj]
    simp
  rw [e1] at h
  rw [e2]
  exact Have.turnX t' ht hk hF h
/-- A row of levels, each made by mk of its value, its blocks, the config, its number and what it has. -/
structure LRow (mk : Value → (Nat → Prop) → Cfg → Int → LS → Thing) (c : Cfg) (vals : List Value) (ts : List Thing) (sts : List LS) : Prop where
  lv : vals.length = sts.length
  lt : ts.length = sts.length
  each : ∀ (j : Nat) (st : LS), sts[j]? = some st → ∃ v Q, vals[j]? = some v ∧ ts[j]? = some (mk v Q c (j : Int) st)
theorem LRow.nil (mk : Value → (Nat → Prop) → Cfg → Int → LS → Thing) (c : Cfg) : LRow mk c [] [] [] := ⟨rfl, rfl, fun j st h => by simp at h⟩
theorem LRow.snoc {mk : Value → (Nat → Prop) → Cfg → Int → LS → Thing} {c : Cfg} {vals : List Value} {ts : List Thing} {sts : List LS} (h : LRow mk c vals ts sts) {n : Nat} (hn : sts.length = n) (v : Value) (Q : Nat → Prop) (st : LS) : LRow mk c (vals ++ [v]) (ts ++ [mk v Q c (n : Int) st]) (sts ++ [st]) := by
  refine ⟨by simp [h.lv], by simp [h.lt], fun j s hj => ?_⟩
  rcases Nat.lt_or_ge j n with h1 | h1
  · rw [List.getElem?_append_left (by omega)] at hj
    obtain ⟨v2, Q2, h2, h3⟩ := h.each j s hj
    exact ⟨v2, Q2, by rw [List.getElem?_append_left (by rw [h.lv]; omega)]; exact h2, by rw [List.getElem?_append_left (by rw [h.lt]; omega)]; exact h3⟩
  · rw [List.getElem?_append_right (by omega), hn] at hj
    have e : j = n := by
      rcases Nat.eq_zero_or_pos (j - n) with h2 | h2
      · omega
      · rw [List.getElem?_eq_none (by simp; omega)] at hj
        cases hj
    subst e
    rw [Nat.sub_self] at hj
    simp at hj
    subst hj
    exact ⟨v, Q, by rw [List.getElem?_append_right (by rw [h.lv]; omega), h.lv, hn]; simp, by rw [List.getElem?_append_right (by rw [h.lt]; omega), h.lt, hn]; simp⟩
theorem LRow.put {mk : Value → (Nat → Prop) → Cfg → Int → LS → Thing} {c : Cfg} {vals : List Value} {ts : List Thing} {sts : List LS} (h : LRow mk c vals ts sts) {j : Nat} {v : Value} (hv : vals[j]? = some v) (Q : Nat → Prop) (st : LS) : LRow mk c vals (ts.set j (mk v Q c (j : Int) st)) (sts.set j st) := by
  have hj := (List.getElem?_eq_some_iff.1 hv).1
  refine ⟨by simp [h.lv], by simp [h.lt], fun i s hi => ?_⟩
  rw [List.getElem?_set] at hi
  by_cases hij : j = i
  · subst hij
    rw [if_pos rfl, if_pos (by rw [← h.lv]; exact hj)] at hi
    injection hi with hi
    subst hi
    exact ⟨v, Q, hv, by rw [List.getElem?_set, if_pos rfl, if_pos (by rw [h.lt, ← h.lv]; exact hj)]⟩
  · rw [if_neg hij] at hi
    obtain ⟨v2, Q2, h2, h3⟩ := h.each i s hi
    exact ⟨v2, Q2, h2, by rw [List.getElem?_set, if_neg hij]; exact h3⟩
theorem LRow.at {mk : Value → (Nat → Prop) → Cfg → Int → LS → Thing} {c : Cfg} {vals : List Value} {ts : List Thing} {sts : List LS} (h : LRow mk c vals ts sts) {j : Nat} (hj : j < sts.length) : ∃ st v Q, sts[j]? = some st ∧ vals[j]? = some v ∧ ts[j]? = some (mk v Q c (j : Int) st) := by
  obtain ⟨v, Q, h1, h2⟩ := h.each j _ (List.getElem?_eq_getElem hj)
  exact ⟨_, v, Q, List.getElem?_eq_getElem hj, h1, h2⟩
/-- The document's level, as the value that points to it. -/
def dlT (v : Value) (F : Nat → Prop) (c : Cfg) (l : Int) (st : LS) : Thing where
  I := fun w => ∃ p, v = .pointer (some p) ∧ DLV w p F c l st
  F := F
  keep := fun w w' H h hk hf => by
    obtain ⟨p, e, h2⟩ := h
    exact ⟨p, e, h2.keep hk hf⟩
  lt := fun w h k hk => by
    obtain ⟨p, e, h2⟩ := h
    exact (dlvT p F c l st).lt w h2 k hk
/-- A row that grows: a slice of one's own, by its header. -/
def ownT (B : Nat) (e : TypeId) (hdr : Value) (vals : List Value) : Thing where
  I := fun w => w.ownsRow B e 1 hdr vals.length vals
  F := fun k => hdr.ownBlock = some k
  keep := fun w w' H h hk hf => hk.own h (fun q hq => hf q hq)
  lt := fun w h k hk => own_lt h hk
end Go.Proofs.YtmdkdjgamhaeoaaGreat.Stk
/- Things whose blocks hold cells: a range over a function turns its own records, which are none, and leaves them. For stages from 15 on. -/
namespace Go.Proofs.YtmdkdjgamhaeoaaGreat.Stk
open Go Go.RowKit Lw Grd Lin Con Shp Sk Exa Lev
set_option linter.unusedVariables false
/-- Each block of F holds cells. -/
def Cel (F : Nat → Prop) (w : World) : Prop := ∀ k, F k → ∃ o : Obj, w.heap[k]? = some o ∧ o.isCells = true
theorem cel_mid {w : World} {g i : Nat} {Z : List Int} (h : Ord.Mid w g i Z) : ∃ o : Obj, w.heap[g]? = some o ∧ o.isCells = true := by
  obtain ⟨vs, e, h1, h2⟩ := h
  exact ⟨_, h1, rfl⟩
theorem cel_pg {w : World} {p : Addr} {F : Nat → Prop} {m n : Nat} {L : List (List Int)} (h : PG w p F m n L) : Cel F w := by
  obtain ⟨hd, b, g, cap, rfl, hb, hm, h1, h2, h3, rfl⟩ := h
  rintro k (rfl | rfl)
  · exact ⟨_, hb, rfl⟩
  · exact cel_mid hm
theorem cel_ex {w : World} {p : Addr} {F : Nat → Prop} {c : Cfg} {l : Int} {L : List Int} (h : EX w p F c l L) : Cel F w := by
  obtain ⟨hr, hok, hl0, hl1, hlk, hn1, hn8, b, gp, G, rfl, hb, hg, hGb, rfl⟩ := h
  rintro k (rfl | hk)
  · exact ⟨_, hb, rfl⟩
  · exact cel_pg hg k hk
theorem cel_sk {w : World} {p : Addr} {F : Nat → Prop} {c : Cfg} {l : Int} {L : List (List Int)} (h : SK w p F c l L) : Cel F w := by
  obtain ⟨hr, hok, hl0, hl1, b, gp, G, rfl, hb, hg, hGb, rfl⟩ := h
  rintro k (rfl | hk)
  · exact ⟨_, hb, rfl⟩
  · exact cel_pg hg k hk
theorem cel_elv {w : World} {v : Value} {F : Nat → Prop} {c : Cfg} {l : Int} {st : LS} (h : ELV w v F c l st) : Cel F w := by
  cases st with
  | A L =>
    obtain ⟨p, e, h2⟩ := h.2
    exact cel_ex h2
  | S L =>
    obtain ⟨p, e, h2⟩ := h.2
    exact cel_sk h2
theorem cel_box {w : World} {b : Nat} {e : TypeId} {vs : Array Value} (h : (boxT b e vs).I w) : Cel (boxT b e vs).F w := by
  rintro k hk
  have hk2 : k = b := hk
  subst hk2
  exact ⟨_, h, rfl⟩
theorem cel_own {w : World} {B : Nat} {e : TypeId} {hdr : Value} {vals : List Value} (h : (ownT B e hdr vals).I w) : Cel (ownT B e hdr vals).F w := by
  rintro k hk
  have h2 : w.ownsRow B e 1 hdr vals.length vals := h
  have hk2 : hdr.ownBlock = some k := hk
  rcases h2.2 with h0 | ⟨g, cap, cur, rfl, hb, hg, h3⟩
  · rw [h0.1] at hk2
    cases hk2
  · have h4 : some g = some k := hk2
    injection h4 with h4
    subst h4
    exact ⟨_, hg, rfl⟩
/-- A block that is no cells is none of a thing's. -/
theorem Thing.turned {t : Thing} {w w' : World} {row : Option Nat} (h : t.I w) (hc : Cel t.F w) (hg : w.grownBy w' row) (hr : ∀ r, row = some r → ∃ o : Obj, w.heap[r]? = some o ∧ o.isCells = false) : t.I w' ∧ Cel t.F w' := by
  have hne : ∀ k, t.F k → ¬ row = some k := fun k hk e => by
    obtain ⟨o, h1, h2⟩ := hc k hk
    obtain ⟨o', h3, h4⟩ := hr k e
    rw [h1] at h3
    injection h3 with h3
    subst h3
    rw [h2] at h4
    cases h4
  refine ⟨t.keep w w' (fun k => row = some k) h ((Kept.refl _ w).grown hg (fun q e => .inl e)) hne, fun k hk => ?_⟩
  obtain ⟨o, h1, h2⟩ := hc k hk
  exact ⟨o, (hg.block k (t.lt w h k hk) (fun e => hne k hk e.symm)).trans h1, h2⟩
/-- Things held, each in blocks that hold cells. -/
def HoldC (F0 : Nat → Prop) (w0 w : World) (ts : List Thing) : Prop := Hold F0 w0 w ts ∧ ∀ t ∈ ts, Cel t.F w
theorem HoldC.own {β : Type} {F0 : Nat → Prop} {w0 : World} {B : Nat} (hB : w0.heap.size ≤ B) (ts : β → List Thing) : OwnFrom B (fun s W => HoldC F0 w0 W (ts s)) := by
  intro s W W' row h hg hr
  have hr2 : ∀ r, row = some r → ∃ o : Obj, W.heap[r]? = some o ∧ o.isCells = false := fun r e => (hr r e).2
  refine ⟨⟨Kept.grown h.1.1 hg (fun q e => .inr (Nat.le_trans hB (hr q e).1)), fun t ht => ⟨(Thing.turned (h.1.2.1 t ht).1 (h.2 t ht) hg hr2).1, (h.1.2.1 t ht).2⟩, h.1.2.2⟩, fun t ht => (Thing.turned (h.1.2.1 t ht).1 (h.2 t ht) hg hr2).2⟩
theorem HoldC.up {F0 : Nat → Prop} {w0 w w' : World} {ts : List Thing} (h : HoldC F0 w0 w ts) (hb : Below w.heap.size w w') : HoldC F0 w0 w' ts := by
  refine ⟨h.1.up hb, fun t ht k hk => ?_⟩
  obtain ⟨o, h1, h2⟩ := h.2 t ht k hk
  exact ⟨o, (hb.5 k (t.lt w (h.1.2.1 t ht).1 k hk)).trans h1, h2⟩
theorem HoldC.i {F0 : Nat → Prop} {w0 w : World} {ts : List Thing} (h : HoldC F0 w0 w ts) {t : Thing} (ht : t ∈ ts) : t.I w := h.1.i ht
theorem HoldC.push {F0 : Nat → Prop} {w0 w w' : World} {ts : List Thing} (h : HoldC F0 w0 w ts) (t : Thing) (hb : Below w.heap.size w w') (ht : t.I w') (hn : ∀ k, t.F k → w.heap.size ≤ k) (hc : Cel t.F w') : HoldC F0 w0 w' (t :: ts) := by
  refine ⟨h.1.push t hb ht hn, fun u hu => ?_⟩
  rcases List.mem_cons.1 hu with rfl | hu
  · exact hc
  · exact (h.up hb).2 u hu
/-- One of them is turned by a call. -/
theorem HoldC.turn {F0 : Nat → Prop} {w0 w w' : World} {fs : List Thing} {t : Thing} {ts : List Thing} (h : HoldC F0 w0 w (fs ++ t :: ts)) (t' : Thing) (ht : t'.I w') (hk : Kept t.F w w') (hF : ∀ k, t'.F k → t.F k ∨ w.heap.size ≤ k) (hc : Cel t'.F w') : HoldC F0 w0 w' (fs ++ t' :: ts) := by
  refine ⟨h.1.turn t' ht hk hF, fun u hu => ?_⟩
  have hap := Asun.append.1 h.1.2.2
  have hoth : u ∈ fs ∨ u ∈ ts → Cel u.F w' := by
    intro hu2 k h1
    have hin : u ∈ fs ++ t :: ts := by
      rcases hu2 with g | g <;> simp [g]
    obtain ⟨o, h2, h3⟩ := h.2 u hin k h1
    refine ⟨o, (hk.block k (u.lt w (h.i hin) k h1) (fun h4 => ?_)).trans h2, h3⟩
    rcases hu2 with g | g
    · exact hap.2.2 u g t (by simp) k h1 h4
    · exact hap.2.1.1 u g k h4 h1
  rcases List.mem_append.1 hu with g | g
  · exact hoth (.inl g)
  · rcases List.mem_cons.1 g with rfl | g
    · exact hc
    · exact hoth (.inr g)
theorem HoldC.set {F0 : Nat → Prop} {w0 w w' : World} {pre ts post : List Thing} {j : Nat} {t : Thing} (h : HoldC F0 w0 w (pre ++ (ts ++ post))) (hj : ts[j]? = some t) (t' : Thing) (ht : t'.I w') (hk : Kept t.F w w') (hF : ∀ k, t'.F k → t.F k ∨ w.heap.size ≤ k) (hc : Cel t'.F w') : HoldC F0 w0 w' (pre ++ (ts.set j t' ++ post)) := by
  have e1 := set_split hj
  have e2 := set_at (t' := t') hj
  rw [e2]
  rw [e1] at h
  have e3 : ∀ t : Thing, pre ++ ((ts.take j ++ t :: ts.drop (j + 1)) ++ post) = (pre ++ ts.take j) ++ t :: (ts.drop (j + 1) ++ post) := by simp
  rw [e3] at h ⊢
  exact h.turn t' ht hk hF hc
/-- What is turned is apart from what is beside it. -/
theorem HoldC.apart {F0 : Nat → Prop} {w0 w : World} {us gs ts : List Thing} (h : HoldC F0 w0 w (us ++ (gs ++ ts))) {t : Thing} (ht : t ∈ ts) {u : Thing} (hu : u ∈ gs) {k : Nat} (hk : u.F k) : ¬ t.F k :=
  ((Asun.append.1 (Asun.append.1 h.1.2.2).2.1).2.2 u hu t ht k hk)
/-- What a call that turns a thing leaves: all that is no cells. -/
theorem others_of {F : Nat → Prop} {w w' : World} (hk : Kept F w w') (hc : Cel F w) : KeepsOthers w w' :=
  ⟨hk.size, fun k o h1 h2 => by
    refine (hk.block k (size_of_heap h1) (fun h3 => ?_)).trans h1
    obtain ⟨o', h4, h5⟩ := hc k h3
    rw [h1] at h4
    injection h4 with h4
    subst h4
    rw [h2] at h5
    cases h5⟩
/-- What a round over levels keeps: the blocks that the iterator reads. -/
structure KeptG (G : Nat → Prop) (w w' : World) : Prop where
  size : w.heap.size ≤ w'.heap.size
  block : ∀ k, G k → w'.heap[k]? = w.heap[k]?
theorem KeptG.refl (G : Nat → Prop) (w : World) : KeptG G w w := ⟨Nat.le_refl _, fun _ _ => rfl⟩
theorem KeptG.trans {G : Nat → Prop} {x y z : World} (h : KeptG G x y) (k : KeptG G y z) : KeptG G x z := ⟨Nat.le_trans h.size k.size, fun i h1 => (k.block i h1).trans (h.block i h1)⟩
theorem KeptG.of_below {G : Nat → Prop} {w w' : World} (hG : ∀ k, G k → k < w.heap.size) (h : Below w.heap.size w w') : KeptG G w w' := ⟨h.4, fun k hk => h.5 k (hG k hk)⟩
theorem KeptG.of_kept {G F : Nat → Prop} {w w' : World} (hG : ∀ k, G k → k < w.heap.size) (h : Kept F w w') (hf : ∀ k, G k → ¬ F k) : KeptG G w w' := ⟨h.size, fun k hk => h.block k (hG k hk) (hf k hk)⟩
theorem KeptG.put {m : Nat} {G : Nat → Prop} (hm : ∀ k, G k → k < m) (W : World) (l : Nat) (o o' : Obj) (hl : m ≤ l) (h1 : W.heap[l]? = some o) (h2 : o.isCells = false) (h3 : o.isWalk = false) : KeptG G W (W.putObj l o') :=
  ⟨by simp, fun k hk => World.putObj_heap_other (by have := hm k hk; omega)⟩
theorem KeptG.cell {G : Nat → Prop} {w w' : World} (h : KeptG G w w') {a : Addr} {v : Value} (hc : w.cell? a = some v) (ha : G a.block) : w'.cell? a = some v := by
  rw [World.cell?_of_block (h.block a.block ha), hc]
end Go.Proofs.YtmdkdjgamhaeoaaGreat.Stk
/- What a stack has, in numbers: all levels updated, the first error of all, the levels that were fed. For stages from 15 on. -/
namespace Go.Proofs.YtmdkdjgamhaeoaaGreat.Stk
open Go Go.RowKit Lw Grd Lin Con Shp Sk Exa Lev
set_option linter.unusedVariables false
/-- The key to which a key belongs at a level. -/
def upK (k : Int) (n : Nat) : Int := k / ((2 ^ n : Nat) : Int)
/-- The first error of all levels from the n-th on. -/
def ers (c : Cfg) (k d : Int) : Nat → List LS → Int
  | _, [] => 0
  | n, st :: sts => if lsCode c n st (upK k n) d = 0 then ers c k d (n + 1) sts else lsCode c n st (upK k n) d
/-- All levels from the n-th on, updated. -/
def rss (c : Cfg) (k d : Int) : Nat → List LS → List LS
  | _, [] => []
  | n, st :: sts => lsRes c n st (upK k n) d :: rss c k d (n + 1) sts
theorem rss_len (c : Cfg) (k d : Int) : ∀ (n : Nat) (sts : List LS), (rss c k d n sts).length = sts.length
  | _, [] => rfl
  | n, st :: sts => by
    show (rss c k d (n + 1) sts).length + 1 = sts.length + 1
    rw [rss_len c k d (n + 1) sts]
theorem rss_get (c : Cfg) (k d : Int) : ∀ (n : Nat) (sts : List LS) (j : Nat) (st : LS), sts[j]? = some st → (rss c k d n sts)[j]? = some (lsRes c ((n + j : Nat) : Int) st (upK k (n + j)) d)
  | n, [], j, st, h => by simp at h
  | n, s :: sts, 0, st, h => by
    simp at h
    subst h
    rfl
  | n, s :: sts, j + 1, st, h => by
    have ih := rss_get c k d (n + 1) sts j st (by simpa using h)
    have e : n + 1 + j = n + (j + 1) := by omega
    rw [e] at ih
    simpa [rss] using ih
theorem ers_first (c : Cfg) (k d : Int) : ∀ (n : Nat) (sts : List LS) (j : Nat) (st : LS), (∀ (i : Nat) (s : LS), i < j → sts[i]? = some s → lsCode c ((n + i : Nat) : Int) s (upK k (n + i)) d = 0) → sts[j]? = some st → ¬ lsCode c ((n + j : Nat) : Int) st (upK k (n + j)) d = 0 → ers c k d n sts = lsCode c ((n + j : Nat) : Int) st (upK k (n + j)) d
  | n, [], j, st, _, h, _ => by simp at h
  | n, s :: sts, 0, st, _, h, hne => by
    simp at h
    subst h
    exact if_neg hne
  | n, s :: sts, j + 1, st, ha, h, hne => by
    have h0 : lsCode c (n : Int) s (upK k n) d = 0 := ha 0 s (by omega) rfl
    have e : n + 1 + j = n + (j + 1) := by omega
    have ih := ers_first c k d (n + 1) sts j st (fun i q hi hq => by
      have h1 := ha (i + 1) q (by omega) (by simpa using hq)
      have e2 : n + 1 + i = n + (i + 1) := by omega
      rw [e2]
      exact h1) (by simpa using h) (by rw [e]; exact hne)
    rw [e] at ih
    show (if lsCode c n s (upK k n) d = 0 then ers c k d (n + 1) sts else lsCode c n s (upK k n) d) = _
    rw [if_pos h0]
    exact ih
theorem ers_none (c : Cfg) (k d : Int) : ∀ (n : Nat) (sts : List LS), (∀ (i : Nat) (s : LS), sts[i]? = some s → lsCode c ((n + i : Nat) : Int) s (upK k (n + i)) d = 0) → ers c k d n sts = 0
  | n, [], _ => rfl
  | n, s :: sts, ha => by
    have h0 : lsCode c (n : Int) s (upK k n) d = 0 := ha 0 s rfl
    show (if lsCode c n s (upK k n) d = 0 then ers c k d (n + 1) sts else lsCode c n s (upK k n) d) = _
    rw [if_pos h0]
    refine ers_none c k d (n + 1) sts (fun i q hq => ?_)
    have h1 := ha (i + 1) q (by simpa using hq)
    have e2 : n + 1 + i = n + (i + 1) := by omega
    rw [e2]
    exact h1
theorem ers_ok (c : Cfg) (k d : Int) : ∀ (n : Nat) (sts : List LS), ers c k d n sts = 0 → ∀ (i : Nat) (s : LS), sts[i]? = some s → lsCode c ((n + i : Nat) : Int) s (upK k (n + i)) d = 0
  | n, [], _, i, s, h => by simp at h
  | n, s :: sts, he, i, q, h => by
    by_cases h0 : lsCode c n s (upK k n) d = 0
    · have he2 : ers c k d (n + 1) sts = 0 := by
        have h1 : ers c k d n (s :: sts) = ers c k d (n + 1) sts := if_pos h0
        rw [← h1]
        exact he
      cases i with
      | zero =>
        simp at h
        subst h
        exact h0
      | succ i =>
        have ih := ers_ok c k d (n + 1) sts he2 i q (by simpa using h)
        have e2 : n + 1 + i = n + (i + 1) := by omega
        rw [e2] at ih
        exact ih
    · have h1 : ers c k d n (s :: sts) = lsCode c n s (upK k n) d := if_neg h0
      rw [he] at h1
      exact absurd h1.symm h0
/-- What Update answers, and what it leaves. -/
def sucode (c : Cfg) (sts : List LS) (k d : Int) : Int := if keys c 0 ≤ k then 2 else if c.md = 2 ∧ d < 0 then 3 else ers c k d 0 sts
def sures (c : Cfg) (sts : List LS) (k d : Int) : List LS := if sucode c sts k d = 0 then rss c k d 0 sts else sts
/-- Updates as they reach a level. -/
def upN (us : Ups) (n : Nat) : Ups := us.map (fun u => (upK u.1 n, u.2))
theorem upN_app (us vs : Ups) (n : Nat) : upN (us ++ vs) n = upN us n ++ upN vs n := List.map_append
theorem upN_len (us : Ups) (n : Nat) : (upN us n).length = us.length := List.length_map _
theorem upK_keys {c : Cfg} (hr : IsRight c) {k : Int} {n : Nat} (h0 : 0 ≤ k) (hk : k < keys c 0) (hn : (n : Int) ≤ c.bt) : 0 ≤ upK k n ∧ upK k n < keys c n := by
  have hp : (0 : Int) < ((2 ^ n : Nat) : Int) := by
    have := Nat.one_le_two_pow (n := n)
    omega
  have hb := hr.1
  have e0 : keys c 0 = 2 ^ (c.bt - 0).toNat := keys_yes hr (by omega) (by omega)
  have e1 : keys c n = 2 ^ (c.bt - n).toNat := keys_yes hr (by omega) hn
  refine ⟨Int.ediv_nonneg h0 (Int.le_of_lt hp), ?_⟩
  unfold upK
  rw [Int.ediv_lt_iff_lt_mul hp, e1]
  have e2 : (2 : Int) ^ (c.bt - n).toNat * ((2 ^ n : Nat) : Int) = 2 ^ (c.bt - 0).toNat := by
    have e3 : (c.bt - 0).toNat = (c.bt - n).toNat + n := by omega
    rw [e3, Int.pow_add]
    simp
  rw [e2, ← e0]
  exact hk
theorem upN_in {c : Cfg} (hr : IsRight c) {us : Ups} (h : UpsIn c 0 us) {n : Nat} (hn : (n : Int) ≤ c.bt) : UpsIn c n (upN us n) := by
  refine ⟨fun u hu => ?_, fun hm u hu => ?_⟩
  · obtain ⟨v, hv, rfl⟩ := List.mem_map.1 hu
    have h1 := h.1 v hv
    have h2 := upK_keys hr h1.1 h1.2.1 hn
    exact ⟨h2.1, h2.2, h1.2.2⟩
  · obtain ⟨v, hv, rfl⟩ := List.mem_map.1 hu
    exact h.2 hm v hv
/-- A level that was fed. -/
def stOf (c : Cfg) (us : Ups) (n : Nat) : LS := if exactB c n = true then .A (sums (keys c n).toNat (upN us n)) else .S (cells c n (upN us n))
theorem stOf_nil (c : Cfg) (n : Nat) : stOf c [] n = lsZero c n := by
  unfold stOf lsZero upN
  split
  · rw [List.map_nil, sums_nil]
  · rw [List.map_nil, cells_nil]
/-- In the midst of sixty updates: the next one reaches the level. -/
theorem stOf_step {c : Cfg} (hr : IsRight c) {us : Ups} (h : UpsIn c 0 us) (hl : us.length ≤ 60) {u : Int × Int} (hu : UpsIn c 0 [u]) {n : Nat} (hn : (n : Int) ≤ c.bt) :
    lsCode c n (stOf c us n) (upK u.1 n) u.2 = 0 ∧ lsRes c n (stOf c us n) (upK u.1 n) u.2 = stOf c (us ++ [u]) n := by
  have h1 := upN_in hr h hn
  have h2 := upN_in hr hu hn
  have hu1 := h2.1 (upK u.1 n, u.2) (by simp [upN])
  have hl2 : (upN us n).length ≤ 60 := by rw [upN_len]; exact hl
  unfold stOf
  rw [upN_app]
  by_cases hx : exactB c n = true
  · rw [if_pos hx, if_pos hx]
    have hk : ((keys c n).toNat : Int) = keys c n := Int.toNat_of_nonneg (by omega)
    have hs := sums_step (md := c.md) (K := (keys c n).toNat) (us := upN us n) (u := (upK u.1 n, u.2)) hu1.1 (by rw [hk]; exact hu1.2.1) hl2 (fun v hv => by
      rcases List.mem_append.1 hv with h3 | h3
      · exact ⟨(h1.1 v h3).2.2.1, (h1.1 v h3).2.2.2⟩
      · rw [List.mem_singleton.1 h3]
        exact ⟨hu1.2.2.1, hu1.2.2.2⟩) (fun hm => h2.2 hm (upK u.1 n, u.2) (by simp [upN]))
    refine ⟨hs.1, ?_⟩
    show LS.A (exRes c.md _ _ _) = _
    rw [hs.2]
    rfl
  · rw [if_neg hx, if_neg hx]
    have hs := up_ok hr h1 hl2 (u := (upK u.1 n, u.2)) h2
    refine ⟨hs.1, ?_⟩
    show LS.S (upRes c n _ _ _) = _
    rw [hs.2]
    rfl
/-- All levels of a stack that was fed. -/
def stsOf (c : Cfg) (us : Ups) : List LS := (List.range (c.bt.toNat + 1)).map (stOf c us)
theorem stsOf_len (c : Cfg) (us : Ups) : (stsOf c us).length = c.bt.toNat + 1 := by unfold stsOf; simp
theorem stsOf_get {c : Cfg} {us : Ups} {n : Nat} (h : n < c.bt.toNat + 1) : (stsOf c us)[n]? = some (stOf c us n) := by
  unfold stsOf
  rw [List.getElem?_map, List.getElem?_range h]
  rfl
theorem stsOf_step {c : Cfg} (hr : IsRight c) {us : Ups} (h : UpsIn c 0 us) (hl : us.length ≤ 60) {u : Int × Int} (hu : UpsIn c 0 [u]) :
    sucode c (stsOf c us) u.1 u.2 = 0 ∧ sures c (stsOf c us) u.1 u.2 = stsOf c (us ++ [u]) := by
  have hb := hr.1
  have hu1 := hu.1 u (by simp)
  have e1 : ers c u.1 u.2 0 (stsOf c us) = 0 := by
    refine ers_none c u.1 u.2 0 _ (fun i s hi => ?_)
    have hi2 := (List.getElem?_eq_some_iff.1 hi).1
    rw [stsOf_len] at hi2
    rw [stsOf_get hi2] at hi
    injection hi with hi
    rw [Nat.zero_add, ← hi]
    exact (stOf_step hr h hl hu (by omega)).1
  have hk : ¬ keys c 0 ≤ u.1 := by omega
  have hm : ¬ (c.md = 2 ∧ u.2 < 0) := fun g => by have := hu.2 g.1 u (by simp); omega
  have e2 : sucode c (stsOf c us) u.1 u.2 = 0 := by
    unfold sucode
    rw [if_neg hk, if_neg hm]
    exact e1
  refine ⟨e2, ?_⟩
  unfold sures
  rw [if_pos e2]
  apply List.ext_getElem?
  intro j
  by_cases hj : j < c.bt.toNat + 1
  · rw [rss_get c u.1 u.2 0 _ j _ (stsOf_get hj), stsOf_get hj, Nat.zero_add]
    rw [(stOf_step hr h hl hu (by omega)).2]
  · rw [List.getElem?_eq_none (by rw [rss_len, stsOf_len]; omega), List.getElem?_eq_none (by rw [stsOf_len]; omega)]
end Go.Proofs.YtmdkdjgamhaeoaaGreat.Stk
/- Sums over the pieces of a span: what the pieces have is what the span has. For stages from 16 on. -/
namespace Go.Proofs.YtmdkdjgamhaeoaaGreat.Spn
open Go Go.RowKit Lw Grd Lin Con Shp Sk Exa Lev Stk Pcs
set_option linter.unusedVariables false
/-- What the keys from lo on, below e, have. -/
def btw (lo e : Nat) : Ups → Int
  | [] => 0
  | u :: us => (if (lo : Int) ≤ u.1 ∧ u.1 < (e : Int) then u.2 else 0) + btw lo e us
theorem btw_add {lo m e : Nat} (h1 : lo ≤ m) (h2 : m ≤ e) : ∀ us : Ups, btw lo m us + btw m e us = btw lo e us
  | [] => rfl
  | u :: us => by
    have ih := btw_add h1 h2 us
    simp only [btw]
    by_cases a1 : (lo : Int) ≤ u.1 ∧ u.1 < (m : Int)
    · rw [if_pos a1, if_neg (by omega), if_pos (by omega)]
      omega
    · rw [if_neg a1]
      by_cases a2 : (m : Int) ≤ u.1 ∧ u.1 < (e : Int)
      · rw [if_pos a2, if_pos (by omega)]
        omega
      · rw [if_neg a2, if_neg (by omega)]
        omega
theorem piece_iff {lo L : Nat} (hd : 2 ^ L ∣ lo) {k : Int} (k0 : 0 ≤ k) : upK k L = ((lo / 2 ^ L : Nat) : Int) ↔ ((lo : Int) ≤ k ∧ k < ((lo + 2 ^ L : Nat) : Int)) := by
  obtain ⟨q, rfl⟩ := hd
  obtain ⟨m, rfl⟩ : ∃ m : Nat, k = m := ⟨k.toNat, by omega⟩
  have hp : 0 < 2 ^ L := Nat.two_pow_pos L
  have e1 : upK (m : Int) L = ((m / 2 ^ L : Nat) : Int) := by
    unfold upK
    exact (Int.natCast_ediv m (2 ^ L)).symm
  rw [e1, Nat.mul_div_cancel_left q hp]
  constructor
  · intro h
    have h1 : m / 2 ^ L = q := by omega
    have h2 := Nat.div_add_mod m (2 ^ L)
    have h3 := Nat.mod_lt m hp
    rw [h1] at h2
    constructor <;> omega
  · rintro ⟨h1, h2⟩
    have h3 : m / 2 ^ L = q := by
      refine Nat.div_eq_of_lt_le ?_ ?_
      · rw [Nat.mul_comm]; omega
      · rw [Nat.mul_comm, Nat.mul_succ]; omega
    rw [h3]
theorem btw_piece {lo L : Nat} (hd : 2 ^ L ∣ lo) : ∀ us : Ups, (∀ u ∈ us, 0 ≤ u.1) → hasK ((lo / 2 ^ L : Nat) : Int) (upN us L) = btw lo (lo + 2 ^ L) us
  | [], _ => rfl
  | u :: us, h => by
    have ih := btw_piece hd us (fun v hv => h v (List.mem_cons_of_mem _ hv))
    show (if upK u.1 L = ((lo / 2 ^ L : Nat) : Int) then u.2 else 0) + hasK ((lo / 2 ^ L : Nat) : Int) (upN us L) = _
    rw [ih]
    simp only [btw]
    by_cases a : upK u.1 L = ((lo / 2 ^ L : Nat) : Int)
    · rw [if_pos a, if_pos ((piece_iff hd (h u (by simp))).1 a)]
    · rw [if_neg a, if_neg (fun g => a ((piece_iff hd (h u (by simp))).2 g))]
/-- The pieces of a span. -/
noncomputable def covL (n lo hi : Nat) : List (Nat × Nat) := by
  classical exact if h : ∃ l, Cov n (hi + 1) lo l then Classical.choose h else []
theorem sum_bd {α : Type} {f : α → Int} {b : Int} : ∀ {l : List α}, (∀ p ∈ l, -b ≤ f p ∧ f p ≤ b) → -(b * l.length) ≤ (l.map f).sum ∧ (l.map f).sum ≤ b * l.length
  | [], _ => by simp
  | p :: l, h => by
    have ih := sum_bd (l := l) (fun q hq => h q (List.mem_cons_of_mem _ hq))
    have h1 := h p (by simp)
    simp only [List.map_cons, List.sum_cons, List.length_cons]
    have e : b * ((l.length + 1 : Nat) : Int) = b * (l.length : Int) + b := by
      rw [Int.natCast_add, Int.mul_add]
      simp
    omega
/-- What a span is told to have, and with what error. -/
noncomputable def parts (c : Cfg) (pt : Nat → Int → Int) (lo hi : Int) : List Int := (covL c.bt.toNat lo.toNat hi.toNat).map (fun p => pt p.1 ((p.2 : Nat) : Int))
def ptC2 (c : Cfg) (lo hi : Int) : Int := if hi < lo then 1 else if keys c 0 ≤ hi then 2 else 0
noncomputable def ptL (c : Cfg) (pt : Nat → Int → Int) (lo hi : Int) : List Int := if ptC2 c lo hi = 0 then parts c pt lo hi else []
noncomputable def rgC (c : Cfg) (pt : Nat → Int → Int) (lo hi : Int) : Int := if ptC2 c lo hi = 0 then (if Wid.fit64 (parts c pt lo hi).sum = true then 0 else 4) else ptC2 c lo hi
noncomputable def rgV (c : Cfg) (pt : Nat → Int → Int) (lo hi : Int) : Int := if rgC c pt lo hi = 0 then (parts c pt lo hi).sum else 0
end Go.Proofs.YtmdkdjgamhaeoaaGreat.Spn
/- The way to a rank's key, in numbers: what all keys below it have, and what it is told too much. For stages from 17 on. By hand. -/
namespace Go.Proofs.YtmdkdjgamhaeoaaGreat.Qnt
open Go Go.RowKit Lw Grd Lin Con Shp Sk Exa Lev Stk Pcs Spn
set_option linter.unusedVariables false
/-- The pieces with which one goes on, from the piece i of the level on; none: what is left of the rank does not fit. -/
def wayQ (pt : Nat → Int → Int) : Nat → Nat → Int → Option (List (Nat × Nat))
  | 0, i, _ => some [(0, i)]
  | L + 1, i, k =>
    if k ≤ pt L ((2 * i : Nat) : Int) then (wayQ pt L (2 * i) k).map (fun l => (L + 1, i) :: l)
    else if Wid.fit64 (k - pt L ((2 * i : Nat) : Int)) = true then (wayQ pt L (2 * i + 1) (k - pt L ((2 * i : Nat) : Int))).map (fun l => (L + 1, i) :: l)
    else none
/-- The way's last piece's index. -/
def keyQ (l : List (Nat × Nat)) : Nat := ((l.getLast?).map (fun p => p.2)).getD 0
theorem keyQ_cons (p : Nat × Nat) {l : List (Nat × Nat)} (h : l ≠ []) : keyQ (p :: l) = keyQ l := by
  unfold keyQ
  cases l with
  | nil => exact absurd rfl h
  | cons q l => simp
/-- A way from a piece down to a key, from half to half. -/
inductive Path : Nat → Nat → List (Nat × Nat) → Prop
  | key (i : Nat) : Path 0 i [(0, i)]
  | half {L i j : Nat} {l : List (Nat × Nat)} (hj : j = 2 * i ∨ j = 2 * i + 1) (h : Path L j l) : Path (L + 1) i ((L + 1, i) :: l)
theorem Path.ne {L i : Nat} {l : List (Nat × Nat)} (h : Path L i l) : l ≠ [] := by
  cases h <;> simp
theorem Path.len {L i : Nat} {l : List (Nat × Nat)} (h : Path L i l) : l.length = L + 1 := by
  induction h with
  | key i => rfl
  | half hj h ih => rw [List.length_cons, ih]
theorem Path.first {L i : Nat} {l : List (Nat × Nat)} (h : Path L i l) : l[0]? = some (L, i) := by
  cases h <;> rfl
/-- The key lies in the piece. -/
theorem Path.in {L i : Nat} {l : List (Nat × Nat)} (h : Path L i l) : i * 2 ^ L ≤ keyQ l ∧ keyQ l < (i + 1) * 2 ^ L := by
  induction h with
  | key i =>
    show i * 2 ^ 0 ≤ i ∧ i < (i + 1) * 2 ^ 0
    rw [Nat.pow_zero]
    omega
  | @half L i j l hj h ih =>
    rw [keyQ_cons _ h.ne]
    have e1 : i * 2 ^ (L + 1) = (2 * i) * 2 ^ L := by rw [Nat.pow_succ, Nat.mul_comm 2 i, Nat.mul_assoc, Nat.mul_comm 2]
    have e2 : (i + 1) * 2 ^ (L + 1) = (2 * i + 1 + 1) * 2 ^ L := by
      have e3 : 2 * i + 1 + 1 = 2 * (i + 1) := by omega
      rw [e3, Nat.pow_succ, Nat.mul_comm 2 (i + 1), Nat.mul_assoc, Nat.mul_comm 2]
    have e4 : (2 * i + 1) * 2 ^ L = 2 * i * 2 ^ L + 2 ^ L := by rw [Nat.succ_mul]
    have e5 : (2 * i + 1 + 1) * 2 ^ L = 2 * i * 2 ^ L + 2 ^ L + 2 ^ L := by rw [Nat.succ_mul, Nat.succ_mul]
    have hp := Nat.two_pow_pos L
    rw [e1, e2, e5]
    rcases hj with rfl | rfl
    · rw [e4] at ih
      omega
    · rw [e4, e5] at ih
      omega
/-- Each piece of the way: its level, and of which it is a half. -/
theorem Path.at {L i : Nat} {l : List (Nat × Nat)} (h : Path L i l) : ∀ (j : Nat) (p : Nat × Nat), l[j]? = some p → p.1 + j = L ∧ i * 2 ^ j ≤ p.2 ∧ p.2 < (i + 1) * 2 ^ j := by
  induction h with
  | key i =>
    intro j p hj
    cases j with
    | zero =>
      simp at hj
      subst hj
      simp
    | succ j => simp at hj
  | @half L i j0 l hj h ih =>
    intro j p hjp
    cases j with
    | zero =>
      simp at hjp
      subst hjp
      simp
    | succ j =>
      have h2 := ih j p (by simpa using hjp)
      have hp := Nat.two_pow_pos j
      have e1 : i * 2 ^ (j + 1) = (2 * i) * 2 ^ j := by rw [Nat.pow_succ, Nat.mul_comm 2 i, Nat.mul_assoc, Nat.mul_comm 2]
      have e2 : (i + 1) * 2 ^ (j + 1) = (2 * i + 1 + 1) * 2 ^ j := by
        have e3 : 2 * i + 1 + 1 = 2 * (i + 1) := by omega
        rw [e3, Nat.pow_succ, Nat.mul_comm 2 (i + 1), Nat.mul_assoc, Nat.mul_comm 2]
      have e4 : (2 * i + 1) * 2 ^ j = 2 * i * 2 ^ j + 2 ^ j := by rw [Nat.succ_mul]
      have e5 : (2 * i + 1 + 1) * 2 ^ j = 2 * i * 2 ^ j + 2 ^ j + 2 ^ j := by rw [Nat.succ_mul, Nat.succ_mul]
      rw [e1, e2, e5]
      obtain ⟨g1, g2, g3⟩ := h2
      rcases hj with rfl | rfl
      · rw [e4] at g3
        omega
      · rw [e4] at g2
        rw [e5] at g3
        omega
theorem Path.next {L i : Nat} {l : List (Nat × Nat)} (h : Path L i l) : ∀ (j : Nat) (p q : Nat × Nat), l[j]? = some p → l[j + 1]? = some q → q.1 + 1 = p.1 ∧ (q.2 = 2 * p.2 ∨ q.2 = 2 * p.2 + 1) := by
  induction h with
  | key i =>
    intro j p q _ hq
    simp at hq
  | @half L i j0 l hj h ih =>
    intro j p q hp hq
    cases j with
    | zero =>
      simp at hp hq
      subst hp
      rw [h.first] at hq
      injection hq with hq
      subst hq
      exact ⟨rfl, hj⟩
    | succ j => exact ih j p q (by simpa using hp) (by simpa using hq)
theorem Path.last {L i : Nat} {l : List (Nat × Nat)} (h : Path L i l) : l[L]? = some (0, keyQ l) := by
  induction h with
  | key i => rfl
  | @half L i j l hj h ih =>
    rw [keyQ_cons _ h.ne]
    simpa using ih
/-- What keys below the piece have. -/
theorem has_piece {us : Ups} (hu : ∀ u ∈ us, 0 ≤ u.1) (L i : Nat) : hasK ((i : Nat) : Int) (upN us L) = btw (i * 2 ^ L) (i * 2 ^ L + 2 ^ L) us := by
  have h := btw_piece (lo := i * 2 ^ L) (L := L) ⟨i, Nat.mul_comm _ _⟩ us hu
  rw [Nat.mul_div_cancel _ (Nat.two_pow_pos L)] at h
  exact h
theorem below_half {us : Ups} (L i : Nat) : btw 0 ((2 * i) * 2 ^ L) us = btw 0 (i * 2 ^ (L + 1)) us := by
  have e1 : i * 2 ^ (L + 1) = (2 * i) * 2 ^ L := by rw [Nat.pow_succ, Nat.mul_comm 2 i, Nat.mul_assoc, Nat.mul_comm 2]
  rw [e1]
theorem below_right {us : Ups} (hu : ∀ u ∈ us, 0 ≤ u.1) (L i : Nat) : btw 0 ((i + 1) * 2 ^ L) us = btw 0 (i * 2 ^ L) us + hasK ((i : Nat) : Int) (upN us L) := by
  rw [has_piece hu, btw_add (Nat.zero_le _) (Nat.le_add_right _ _), Nat.succ_mul]
theorem has_halves {us : Ups} (hu : ∀ u ∈ us, 0 ≤ u.1) (L i : Nat) : hasK ((i : Nat) : Int) (upN us (L + 1)) = hasK ((2 * i : Nat) : Int) (upN us L) + hasK ((2 * i + 1 : Nat) : Int) (upN us L) := by
  have h1 := below_right hu (L + 1) i
  have h2 := below_right hu L (2 * i)
  have h3 := below_right hu L (2 * i + 1)
  have e1 : (2 * i + 1 + 1) * 2 ^ L = (i + 1) * 2 ^ (L + 1) := by
    have e3 : 2 * i + 1 + 1 = 2 * (i + 1) := by omega
    rw [e3, Nat.pow_succ, Nat.mul_comm 2 (i + 1), Nat.mul_assoc, Nat.mul_comm 2]
  rw [e1] at h3
  rw [below_half] at h2
  omega
/-- How much too much is told of a piece's first half. -/
def ovQ (pt : Nat → Int → Int) (us : Ups) (p : Nat × Nat) : Int := if p.1 = 0 then 0 else pt (p.1 - 1) ((2 * p.2 : Nat) : Int) - hasK ((2 * p.2 : Nat) : Int) (upN us (p.1 - 1))
/-- What Way and Quantile answer. -/
def qnC (c : Cfg) (pt : Nat → Int → Int) (k : Int) : Int := if k < 1 ∨ pt c.bt.toNat 0 < k then 6 else if (wayQ pt c.bt.toNat 0 k).isSome = true then 0 else 4
def qnL (c : Cfg) (pt : Nat → Int → Int) (k : Int) : List (Nat × Nat) := if qnC c pt k = 0 then (wayQ pt c.bt.toNat 0 k).getD [] else []
def qnV (c : Cfg) (pt : Nat → Int → Int) (k : Int) : Int := ((keyQ (qnL c pt k) : Nat) : Int)
end Go.Proofs.YtmdkdjgamhaeoaaGreat.Qnt
/- The pieces that have much, in numbers: what is asked, what is told. For stages from 18 on. By hand. -/
namespace Go.Proofs.YtmdkdjgamhaeoaaGreat.Hvy
open Go Go.RowKit Lw Grd Lin Con Shp Sk Exa Lev Stk Pcs Spn Qnt
set_option linter.unusedVariables false
/-- Is the piece told? -/
def big (pt : Nat → Int → Int) (least : Int) (L i : Nat) : Bool := decide (least ≤ pt L ((i : Nat) : Int))
/-- The halves of those that are told, of some of one level. -/
def halvesQ (pt : Nat → Int → Int) (least : Int) (L : Nat) (l : List Nat) : List Nat := (l.filter (big pt least L)).flatMap (fun i => [2 * i, 2 * i + 1])
/-- What is asked, so many levels below the highest one. -/
def askQ (pt : Nat → Int → Int) (least : Int) (B : Nat) : Nat → List Nat
  | 0 => [0]
  | d + 1 => halvesQ pt least (B - d) (askQ pt least B d)
/-- What is told of some pieces of one level. -/
def tellQ (pt : Nat → Int → Int) (least : Int) (L : Nat) (l : List Nat) : List ((Nat × Nat) × Int) := (l.filter (big pt least L)).map (fun i => ((L, i), pt L ((i : Nat) : Int)))
/-- What is told, of so many levels, the highest one first. -/
def foundQ (pt : Nat → Int → Int) (least : Int) (B : Nat) : Nat → List ((Nat × Nat) × Int)
  | 0 => []
  | d + 1 => foundQ pt least B d ++ tellQ pt least (B - d) (askQ pt least B d)
/-- How many are asked, of so many levels. -/
def countQ (pt : Nat → Int → Int) (least : Int) (B : Nat) : Nat → Nat
  | 0 => 0
  | d + 1 => countQ pt least B d + (askQ pt least B d).length
theorem halvesQ_app (pt : Nat → Int → Int) (least : Int) (L : Nat) (l m : List Nat) : halvesQ pt least L (l ++ m) = halvesQ pt least L l ++ halvesQ pt least L m := by
  unfold halvesQ
  rw [List.filter_append, List.flatMap_append]
theorem tellQ_app (pt : Nat → Int → Int) (least : Int) (L : Nat) (l m : List Nat) : tellQ pt least L (l ++ m) = tellQ pt least L l ++ tellQ pt least L m := by
  unfold tellQ
  rw [List.filter_append, List.map_append]
theorem halvesQ_yes {pt : Nat → Int → Int} {least : Int} {L i : Nat} (h : least ≤ pt L ((i : Nat) : Int)) : halvesQ pt least L [i] = [2 * i, 2 * i + 1] := by
  unfold halvesQ
  rw [List.filter_cons_of_pos (by unfold big; exact decide_eq_true h)]
  rfl
theorem halvesQ_no {pt : Nat → Int → Int} {least : Int} {L i : Nat} (h : ¬ least ≤ pt L ((i : Nat) : Int)) : halvesQ pt least L [i] = [] := by
  unfold halvesQ
  rw [List.filter_cons_of_neg (by unfold big; simpa using h)]
  rfl
theorem tellQ_yes {pt : Nat → Int → Int} {least : Int} {L i : Nat} (h : least ≤ pt L ((i : Nat) : Int)) : tellQ pt least L [i] = [((L, i), pt L ((i : Nat) : Int))] := by
  unfold tellQ
  rw [List.filter_cons_of_pos (by unfold big; exact decide_eq_true h)]
  rfl
theorem tellQ_no {pt : Nat → Int → Int} {least : Int} {L i : Nat} (h : ¬ least ≤ pt L ((i : Nat) : Int)) : tellQ pt least L [i] = [] := by
  unfold tellQ
  rw [List.filter_cons_of_neg (by unfold big; simpa using h)]
  rfl
theorem halvesQ_len (pt : Nat → Int → Int) (least : Int) (L : Nat) : ∀ l : List Nat, (halvesQ pt least L l).length = 2 * (tellQ pt least L l).length
  | [] => rfl
  | i :: l => by
    have ih := halvesQ_len pt least L l
    have e1 := halvesQ_app pt least L [i] l
    have e2 := tellQ_app pt least L [i] l
    rw [List.singleton_append] at e1 e2
    rw [e1, e2, List.length_append, List.length_append, ih]
    by_cases h : least ≤ pt L ((i : Nat) : Int)
    · rw [halvesQ_yes h, tellQ_yes h]
      simp
      omega
    · rw [halvesQ_no h, tellQ_no h]
      simp
theorem halvesQ_le (pt : Nat → Int → Int) (least : Int) (L : Nat) (l : List Nat) : (halvesQ pt least L l).length ≤ 2 * l.length := by
  rw [halvesQ_len]
  unfold tellQ
  rw [List.length_map]
  have := List.length_filter_le (big pt least L) l
  omega
theorem askQ_le (pt : Nat → Int → Int) (least : Int) (B : Nat) : ∀ d : Nat, (askQ pt least B d).length ≤ 2 ^ d
  | 0 => Nat.le_refl _
  | d + 1 => by
    have ih := askQ_le pt least B d
    have h := halvesQ_le pt least (B - d) (askQ pt least B d)
    rw [Nat.pow_succ]
    show (halvesQ pt least (B - d) (askQ pt least B d)).length ≤ _
    omega
/-- As many as there are prefixes are enough. -/
theorem countQ_le (pt : Nat → Int → Int) (least : Int) (B : Nat) : ∀ d : Nat, countQ pt least B d + 1 ≤ 2 ^ d
  | 0 => Nat.le_refl _
  | d + 1 => by
    have ih := countQ_le pt least B d
    have h := askQ_le pt least B d
    rw [Nat.pow_succ]
    show countQ pt least B d + (askQ pt least B d).length + 1 ≤ _
    omega
theorem countQ_mono (pt : Nat → Int → Int) (least : Int) (B : Nat) {a : Nat} : ∀ {b : Nat}, a ≤ b → countQ pt least B a ≤ countQ pt least B b
  | 0, h => by
    obtain rfl : a = 0 := by omega
    exact Nat.le_refl _
  | b + 1, h => by
    by_cases e : a = b + 1
    · subst e
      exact Nat.le_refl _
    · have ih := countQ_mono pt least B (a := a) (b := b) (by omega)
      exact Nat.le_trans ih (Nat.le_add_right _ _)
/-- What is asked: the one above all, and two of each that is told and has halves. -/
theorem countQ_found (pt : Nat → Int → Int) (least : Int) (B : Nat) : ∀ d : Nat, countQ pt least B (d + 1) = 1 + 2 * (foundQ pt least B d).length
  | 0 => rfl
  | d + 1 => by
    have ih := countQ_found pt least B d
    show countQ pt least B (d + 1) + (halvesQ pt least (B - d) (askQ pt least B d)).length = 1 + 2 * (foundQ pt least B d ++ tellQ pt least (B - d) (askQ pt least B d)).length
    rw [ih, halvesQ_len, List.length_append]
    omega
theorem mem_halvesQ {pt : Nat → Int → Int} {least : Int} {L x : Nat} {l : List Nat} : x ∈ halvesQ pt least L l ↔ (x / 2 ∈ l ∧ least ≤ pt L ((x / 2 : Nat) : Int)) := by
  unfold halvesQ
  rw [List.mem_flatMap]
  constructor
  · rintro ⟨i, hi, hx⟩
    rw [List.mem_filter] at hi
    have e : x / 2 = i := by
      simp at hx
      omega
    rw [e]
    exact ⟨hi.1, of_decide_eq_true hi.2⟩
  · rintro ⟨h1, h2⟩
    refine ⟨x / 2, List.mem_filter.2 ⟨h1, decide_eq_true h2⟩, ?_⟩
    simp
    omega
theorem mem_tellQ {pt : Nat → Int → Int} {least : Int} {L : Nat} {l : List Nat} {q : (Nat × Nat) × Int} : q ∈ tellQ pt least L l ↔ (q.1.1 = L ∧ q.1.2 ∈ l ∧ least ≤ pt L ((q.1.2 : Nat) : Int) ∧ q.2 = pt L ((q.1.2 : Nat) : Int)) := by
  unfold tellQ
  rw [List.mem_map]
  constructor
  · rintro ⟨i, hi, rfl⟩
    rw [List.mem_filter] at hi
    exact ⟨rfl, hi.1, of_decide_eq_true hi.2, rfl⟩
  · rintro ⟨h1, h2, h3, h4⟩
    refine ⟨q.1.2, List.mem_filter.2 ⟨h2, decide_eq_true h3⟩, ?_⟩
    obtain ⟨⟨a, b⟩, n⟩ := q
    simp only at h1 h4
    subst h1 h4
    rfl
theorem mem_foundQ {pt : Nat → Int → Int} {least : Int} {B : Nat} {q : (Nat × Nat) × Int} : ∀ {d : Nat}, q ∈ foundQ pt least B d ↔ ∃ e, e < d ∧ q.1.1 = B - e ∧ q.1.2 ∈ askQ pt least B e ∧ least ≤ pt (B - e) ((q.1.2 : Nat) : Int) ∧ q.2 = pt (B - e) ((q.1.2 : Nat) : Int)
  | 0 => by simp [foundQ]
  | d + 1 => by
    have ih := mem_foundQ (pt := pt) (least := least) (B := B) (q := q) (d := d)
    show q ∈ foundQ pt least B d ++ tellQ pt least (B - d) (askQ pt least B d) ↔ _
    rw [List.mem_append, ih, mem_tellQ]
    constructor
    · rintro (⟨e, h1, h2⟩ | h)
      · exact ⟨e, by omega, h2⟩
      · exact ⟨d, by omega, h⟩
    · rintro ⟨e, h1, h2⟩
      by_cases he : e = d
      · subst he
        exact .inr h2
      · exact .inl ⟨e, by omega, h2⟩
/-- What is asked are pieces. -/
theorem askQ_lt {pt : Nat → Int → Int} {least : Int} {B : Nat} : ∀ {d i : Nat}, i ∈ askQ pt least B d → i < 2 ^ d
  | 0, i, h => by
    have h2 : i = 0 := List.mem_singleton.1 h
    subst h2
    exact Nat.one_pos
  | d + 1, i, h => by
    have h2 := askQ_lt (mem_halvesQ.1 h).1
    rw [Nat.pow_succ]
    omega
/-- What is asked rises. -/
theorem halvesQ_rises {pt : Nat → Int → Int} {least : Int} {L : Nat} {l : List Nat} (h : l.Pairwise (· < ·)) : (halvesQ pt least L l).Pairwise (· < ·) := by
  induction l with
  | nil => exact List.Pairwise.nil
  | cons i l ih =>
    have e := halvesQ_app pt least L [i] l
    rw [List.singleton_append] at e
    obtain ⟨h1, h2⟩ := List.pairwise_cons.1 h
    rw [e, List.pairwise_append]
    refine ⟨?_, ih h2, fun a ha b hb => ?_⟩
    · by_cases g : least ≤ pt L ((i : Nat) : Int)
      · rw [halvesQ_yes g]
        simp
      · rw [halvesQ_no g]
        exact List.Pairwise.nil
    · have a1 := (mem_halvesQ.1 ha).1
      have b1 := (mem_halvesQ.1 hb).1
      rw [List.mem_singleton] at a1
      have := h1 _ b1
      omega
theorem askQ_rises (pt : Nat → Int → Int) (least : Int) (B : Nat) : ∀ d : Nat, (askQ pt least B d).Pairwise (· < ·)
  | 0 => List.pairwise_singleton _ _
  | d + 1 => halvesQ_rises (askQ_rises pt least B d)
/-- Each piece that has much is asked, where no key has less than 0 and no piece is told less than it has. -/
theorem askQ_all {pt : Nat → Int → Int} {us : Ups} (hu : ∀ u ∈ us, 0 ≤ u.1) {least : Int} {B : Nat} (ho : ∀ (L i : Nat), L ≤ B → i < 2 ^ (B - L) → hasK ((i : Nat) : Int) (upN us L) ≤ pt L ((i : Nat) : Int)) (hn : ∀ (L i : Nat), 0 ≤ hasK ((i : Nat) : Int) (upN us L)) :
    ∀ {d i : Nat}, d ≤ B → i < 2 ^ d → least ≤ hasK ((i : Nat) : Int) (upN us (B - d)) → i ∈ askQ pt least B d
  | 0, i, _, hi, _ => by
    have : i = 0 := by simpa using hi
    subst this
    exact List.mem_singleton.2 rfl
  | d + 1, i, hd, hi, hl => by
    rw [Nat.pow_succ] at hi
    have e1 : B - d = B - (d + 1) + 1 := by omega
    have h1 := has_halves hu (B - (d + 1)) (i / 2)
    have h2 := hn (B - (d + 1)) (2 * (i / 2))
    have h3 := hn (B - (d + 1)) (2 * (i / 2) + 1)
    have h4 : hasK ((i : Nat) : Int) (upN us (B - (d + 1))) ≤ hasK ((i / 2 : Nat) : Int) (upN us (B - d)) := by
      rw [e1, h1]
      have e2 : i = 2 * (i / 2) ∨ i = 2 * (i / 2) + 1 := by omega
      rcases e2 with e | e
      · have e5 : hasK ((i : Nat) : Int) (upN us (B - (d + 1))) = hasK ((2 * (i / 2) : Nat) : Int) (upN us (B - (d + 1))) := by rw [← e]
        omega
      · have e5 : hasK ((i : Nat) : Int) (upN us (B - (d + 1))) = hasK ((2 * (i / 2) + 1 : Nat) : Int) (upN us (B - (d + 1))) := by rw [← e]
        omega
    have h5 := askQ_all (least := least) hu ho hn (d := d) (i := i / 2) (by omega) (by omega) (Int.le_trans hl h4)
    have e3 : B - (B - d) = d := by omega
    exact mem_halvesQ.2 ⟨h5, by have := ho (B - d) (i / 2) (by omega) (by rw [e3]; omega); omega⟩
end Go.Proofs.YtmdkdjgamhaeoaaGreat.Hvy
/- The pieces that are kept of those that have much, in numbers. For stages from 18 on. By hand. -/
namespace Go.Proofs.YtmdkdjgamhaeoaaGreat.Hvy
open Go Go.RowKit Lw Grd Lin Con Shp Sk Exa Lev Stk Pcs Spn Qnt
set_option linter.unusedVariables false
/-- A piece that is kept: what is told of it, and its rest. -/
abbrev Kp := (Nat × Nat) × Int × Int
/-- Does a piece lie within another one? -/
def inQ (p q : Nat × Nat) : Bool := decide (p.1 ≤ q.1 ∧ p.2 / 2 ^ (q.1 - p.1) = q.2)
/-- Lies what is kept within the piece, and in nothing else that is kept within it? -/
def aloneQ (K : List Kp) (k : Nat) (p : Nat × Nat) : Bool :=
  match K[k]? with
  | none => false
  | some x => inQ x.1 p && (List.range K.length).all (fun m => m == k || (match K[m]? with
    | none => true
    | some y => !(inQ x.1 y.1 && inQ y.1 p)))
def numK (K : List Kp) (k : Nat) : Int := ((K[k]?).map (fun x => x.2.1)).getD 0
/-- What is kept within a piece has together. -/
def withinQ (K : List Kp) (p : Nat × Nat) : Int := ((List.range K.length).map (fun k => if aloneQ K k p = true then numK K k else 0)).sum
def restQ (K : List Kp) (q : (Nat × Nat) × Int) : Int := q.2 - withinQ K q.1
/-- What is kept of some pieces, one behind the other; none: some rest does not fit. -/
def hierF (least : Int) : List ((Nat × Nat) × Int) → List Kp → Option (List Kp)
  | [], K => some K
  | q :: l, K => if Wid.fit64 (restQ K q) = true then hierF least l (if least ≤ restQ K q then K ++ [(q.1, q.2, restQ K q)] else K) else none
theorem hierF_app (least : Int) : ∀ (l m : List ((Nat × Nat) × Int)) (K : List Kp), hierF least (l ++ m) K = (hierF least l K).bind (hierF least m)
  | [], m, K => rfl
  | q :: l, m, K => by
    rw [List.cons_append, hierF, hierF]
    by_cases h : Wid.fit64 (restQ K q) = true
    · rw [if_pos h, if_pos h, hierF_app least l m]
    · rw [if_neg h, if_neg h]
      rfl
/-- The lowest level first. -/
def orderQ (B : Nat) (l : List ((Nat × Nat) × Int)) : List ((Nat × Nat) × Int) := (List.range (B + 1)).flatMap (fun L => l.filter (fun q => decide (q.1.1 = L)))
theorem mem_orderQ {B : Nat} {l : List ((Nat × Nat) × Int)} {q : (Nat × Nat) × Int} : q ∈ orderQ B l ↔ q ∈ l ∧ q.1.1 ≤ B := by
  unfold orderQ
  rw [List.mem_flatMap]
  constructor
  · rintro ⟨L, h1, h2⟩
    rw [List.mem_filter] at h2
    have h3 : q.1.1 = L := of_decide_eq_true h2.2
    rw [List.mem_range] at h1
    exact ⟨h2.1, by omega⟩
  · rintro ⟨h1, h2⟩
    exact ⟨q.1.1, List.mem_range.2 (by omega), List.mem_filter.2 ⟨h1, decide_eq_true rfl⟩⟩
/-- Each rest is what is told, less what was kept within the piece; and it is not less than least. -/
def Good (least : Int) (K : List Kp) : Prop := ∀ (i : Nat) (x : Kp), K[i]? = some x → least ≤ x.2.2 ∧ x.2.2 = x.2.1 - withinQ (K.take i) x.1
theorem Good.nil (least : Int) : Good least [] := fun i x h => by simp at h
theorem Good.snoc {least : Int} {K : List Kp} (h : Good least K) {q : (Nat × Nat) × Int} (hr : least ≤ restQ K q) : Good least (K ++ [(q.1, q.2, restQ K q)]) := by
  intro i x hx
  by_cases hi : i < K.length
  · rw [List.getElem?_append_left hi] at hx
    rw [List.take_append_of_le_length (by omega)]
    exact h i x hx
  · rw [List.getElem?_append_right (by omega)] at hx
    have h2 := (List.getElem?_eq_some_iff.1 hx).1
    have h3 : i = K.length := by simp at h2; omega
    subst h3
    rw [Nat.sub_self] at hx
    have h4 : (q.1, q.2, restQ K q) = x := by simpa using hx
    subst h4
    rw [List.take_append_of_le_length (Nat.le_refl _), List.take_length]
    exact ⟨hr, rfl⟩
theorem hierF_good {least : Int} : ∀ {l : List ((Nat × Nat) × Int)} {K K' : List Kp}, Good least K → hierF least l K = some K' → Good least K' ∧ ∃ E : List Kp, K' = K ++ E ∧ (E.map (fun x => (x.1, x.2.1))).Sublist l
  | [], K, K', h, e => by
    injection e with e
    subst e
    exact ⟨h, [], by simp, List.Sublist.refl _⟩
  | q :: l, K, K', h, e => by
    rw [hierF] at e
    by_cases hf : Wid.fit64 (restQ K q) = true
    · rw [if_pos hf] at e
      by_cases hr : least ≤ restQ K q
      · rw [if_pos hr] at e
        obtain ⟨g1, E, rfl, g2⟩ := hierF_good (h.snoc hr) e
        exact ⟨g1, (q.1, q.2, restQ K q) :: E, by simp, by simpa using g2⟩
      · rw [if_neg hr] at e
        obtain ⟨g1, E, rfl, g2⟩ := hierF_good h e
        exact ⟨g1, E, rfl, g2.trans (List.sublist_cons_self _ _)⟩
    · rw [if_neg hf] at e
      cases e
theorem sum_zero {l : List Nat} {f : Nat → Int} (h : ∀ k ∈ l, f k = 0) : (l.map f).sum = 0 := by
  induction l with
  | nil => rfl
  | cons a l ih =>
    rw [List.map_cons, List.sum_cons, h a (by simp), ih (fun k hk => h k (List.mem_cons_of_mem _ hk))]
    rfl
/-- Within a key there is nothing else. -/
theorem within_key {K : List Kp} {i : Nat} (h : ∀ x ∈ K, x.1 ≠ (0, i)) : withinQ K (0, i) = 0 := by
  refine sum_zero (fun k hk => ?_)
  rw [if_neg]
  intro ha
  unfold aloneQ at ha
  cases hx : K[k]? with
  | none => rw [hx] at ha; cases ha
  | some x =>
    rw [hx] at ha
    have h1 : inQ x.1 (0, i) = true := (Bool.and_eq_true _ _ ▸ ha).1
    have h2 := of_decide_eq_true h1
    have h3 : x.1.1 = 0 := by have := h2.1; simpa using this
    have h4 : x.1.2 = i := by
      have := h2.2
      rw [h3] at this
      simpa using this
    refine h x (List.mem_of_getElem? hx) ?_
    obtain ⟨⟨a, b⟩, c⟩ := x
    simp only at h3 h4
    subst h3 h4
    rfl
/-- Each key that is told is kept, with all that is told of it. -/
theorem hierF_keys {least : Int} : ∀ {l : List ((Nat × Nat) × Int)} {K : List Kp}, (∀ q ∈ l, q.1.1 = 0 ∧ least ≤ q.2 ∧ Wid.fit64 q.2 = true) → (l.map (fun q => q.1)).Nodup → (∀ q ∈ l, ∀ x ∈ K, x.1 ≠ q.1) →
    hierF least l K = some (K ++ l.map (fun q => (q.1, q.2, q.2)))
  | [], K, _, _, _ => by rw [hierF]; simp
  | q :: l, K, h, hn, hk => by
    have hq := h q (by simp)
    have hw : withinQ K q.1 = 0 := by
      have e : q.1 = (0, q.1.2) := by
        obtain ⟨⟨a, b⟩, c⟩ := q
        have : a = 0 := hq.1
        subst this
        rfl
      have h3 := hk q (by simp)
      rw [e] at h3 ⊢
      exact within_key h3
    have hr : restQ K q = q.2 := by unfold restQ; rw [hw]; omega
    rw [List.map_cons, List.nodup_cons] at hn
    rw [hierF, hr, if_pos hq.2.2, if_pos hq.2.1]
    rw [hierF_keys (fun p hp => h p (List.mem_cons_of_mem _ hp)) hn.2 (fun p hp x hx => by
      rcases List.mem_append.1 hx with h1 | h1
      · exact hk p (List.mem_cons_of_mem _ hp) x h1
      · rw [List.mem_singleton] at h1
        subst h1
        exact fun e => hn.1 (List.mem_map.2 ⟨p, hp, e.symm⟩))]
    simp
/-- As aloneQ, but only what stands behind it is asked. -/
def laterQ (K : List Kp) (k : Nat) (p : Nat × Nat) : Bool :=
  match K[k]? with
  | none => false
  | some x => inQ x.1 p && (List.range K.length).all (fun m => decide (m ≤ k) || (match K[m]? with
    | none => true
    | some y => !(inQ x.1 y.1 && inQ y.1 p)))
/-- The lowest levels stand first, and no piece twice. -/
def Row (K : List Kp) : Prop := K.Pairwise (fun x y => x.1.1 ≤ y.1.1 ∧ x.1 ≠ y.1)
theorem Row.at {K : List Kp} (h : Row K) {i j : Nat} {x y : Kp} (hi : K[i]? = some x) (hj : K[j]? = some y) (hij : i < j) : x.1.1 ≤ y.1.1 ∧ x.1 ≠ y.1 := by
  obtain ⟨h1, rfl⟩ := List.getElem?_eq_some_iff.1 hi
  obtain ⟨h2, rfl⟩ := List.getElem?_eq_some_iff.1 hj
  exact List.pairwise_iff_getElem.1 h i j h1 h2 hij
theorem in_same {p q : Nat × Nat} (h : inQ p q = true) (hl : q.1 ≤ p.1) : p = q := by
  have h2 := of_decide_eq_true h
  obtain ⟨a, b⟩ := p
  obtain ⟨c, d⟩ := q
  simp only at h2 hl
  obtain rfl : a = c := by omega
  have h3 := h2.2
  rw [Nat.sub_self, Nat.pow_zero, Nat.div_one] at h3
  rw [h3]
theorem alone_later {K : List Kp} (h : Row K) (k : Nat) (p : Nat × Nat) : aloneQ K k p = laterQ K k p := by
  unfold aloneQ laterQ
  cases hx : K[k]? with
  | none => rfl
  | some x =>
    simp only
    congr 1
    rw [Bool.eq_iff_iff, List.all_eq_true, List.all_eq_true]
    constructor
    · intro g m hm
      have h1 := g m hm
      rw [Bool.or_eq_true] at h1 ⊢
      rcases h1 with h1 | h1
      · exact .inl (decide_eq_true (by have : m = k := by simpa using h1
                                       omega))
      · exact .inr h1
    · intro g m hm
      have h1 := g m hm
      rw [Bool.or_eq_true] at h1 ⊢
      rcases h1 with h1 | h1
      · have h2 : m ≤ k := of_decide_eq_true h1
        by_cases e : m = k
        · exact .inl (by simpa using e)
        · right
          cases hy : K[m]? with
          | none => rfl
          | some y =>
            have h3 := h.at hy hx (by omega)
            simp only
            cases hin : inQ x.1 y.1 with
            | false => rfl
            | true => exact absurd (in_same hin h3.1).symm h3.2
      · exact .inr h1
/-- The order in which pieces are gone through. -/
theorem orderQ_row {B : Nat} {l : List ((Nat × Nat) × Int)} (hn : l.Pairwise (fun x y => x.1 ≠ y.1)) : (orderQ B l).Pairwise (fun x y => x.1.1 ≤ y.1.1 ∧ x.1 ≠ y.1) := by
  unfold orderQ
  rw [List.pairwise_flatMap]
  constructor
  · intro L _
    have h1 := List.Pairwise.filter (fun q : (Nat × Nat) × Int => decide (q.1.1 = L)) hn
    refine List.Pairwise.imp_of_mem ?_ h1
    intro x y hx hy hxy
    have e1 : x.1.1 = L := of_decide_eq_true (List.mem_filter.1 hx).2
    have e2 : y.1.1 = L := of_decide_eq_true (List.mem_filter.1 hy).2
    exact ⟨by omega, hxy⟩
  · refine List.Pairwise.imp ?_ (List.pairwise_lt_range (n := B + 1))
    intro L M hLM x hx y hy
    have e1 : x.1.1 = L := of_decide_eq_true (List.mem_filter.1 hx).2
    have e2 : y.1.1 = M := of_decide_eq_true (List.mem_filter.1 hy).2
    exact ⟨by omega, fun e => by rw [e] at e1; omega⟩
/-- No piece is told twice. -/
theorem foundQ_row (pt : Nat → Int → Int) (least : Int) (B : Nat) : ∀ d : Nat, d ≤ B + 1 → (foundQ pt least B d).Pairwise (fun x y => x.1 ≠ y.1)
  | 0, _ => List.Pairwise.nil
  | d + 1, hd => by
    show (foundQ pt least B d ++ tellQ pt least (B - d) (askQ pt least B d)).Pairwise _
    rw [List.pairwise_append]
    refine ⟨foundQ_row pt least B d (by omega), ?_, fun x hx y hy e => ?_⟩
    · unfold tellQ
      rw [List.pairwise_map]
      refine List.Pairwise.imp ?_ (List.Pairwise.filter (big pt least (B - d)) (askQ_rises pt least B d))
      intro a b hab e
      have h1 : a = b := by injection e
      omega
    · obtain ⟨e1, h1, h2, -⟩ := mem_foundQ.1 hx
      have h3 := (mem_tellQ.1 hy).1
      rw [e, h3] at h2
      omega
/-- What is kept stands in order, too. -/
theorem hierF_row {least : Int} {l : List ((Nat × Nat) × Int)} {K : List Kp} (hl : l.Pairwise (fun x y => x.1.1 ≤ y.1.1 ∧ x.1 ≠ y.1)) (h : hierF least l [] = some K) : Row K := by
  obtain ⟨-, E, rfl, hs⟩ := hierF_good (Good.nil least) h
  have h2 := hl.sublist hs
  rw [List.pairwise_map] at h2
  simpa [Row] using h2
end Go.Proofs.YtmdkdjgamhaeoaaGreat.Hvy
/- What Heavy and Hier answer. For stages from 18 on. By hand. -/
namespace Go.Proofs.YtmdkdjgamhaeoaaGreat.Hvy
open Go Go.RowKit Lw Grd Lin Con Shp Sk Exa Lev Stk Pcs Spn Qnt
set_option linter.unusedVariables false
/-- The cells of what is told, and of what is kept. -/
def encF (q : (Nat × Nat) × Int) : List Value := [.int .i64 (q.1.1 : Int), .int .u64 (q.1.2 : Int), .int .i64 q.2]
def encR (x : Kp) : List Value := [.int .i64 (x.1.1 : Int), .int .u64 (x.1.2 : Int), .int .i64 x.2.1, .int .i64 x.2.2]
theorem encF_len (q : (Nat × Nat) × Int) : (encF q).length = 3 := rfl
theorem encR_len (x : Kp) : (encR x).length = 4 := rfl
def hvC (c : Cfg) (pt : Nat → Int → Int) (least bud : Int) : Int := if least < 1 ∨ 4096 < bud then 1 else if bud < ((countQ pt least c.bt.toNat (c.bt.toNat + 1) : Nat) : Int) then 7 else 0
def hvL (c : Cfg) (pt : Nat → Int → Int) (least bud : Int) : List ((Nat × Nat) × Int) := if hvC c pt least bud = 0 then foundQ pt least c.bt.toNat (c.bt.toNat + 1) else []
def hierQ (c : Cfg) (pt : Nat → Int → Int) (least : Int) : Option (List Kp) := hierF least (orderQ c.bt.toNat (foundQ pt least c.bt.toNat (c.bt.toNat + 1))) []
def hrC (c : Cfg) (pt : Nat → Int → Int) (least bud : Int) : Int := if hvC c pt least bud = 0 then (if (hierQ c pt least).isSome = true then 0 else 4) else hvC c pt least bud
def hrL (c : Cfg) (pt : Nat → Int → Int) (least bud : Int) : List Kp := if hrC c pt least bud = 0 then (hierQ c pt least).getD [] else []
theorem hv_arg {c : Cfg} {pt : Nat → Int → Int} {least bud : Int} (h : least < 1 ∨ 4096 < bud) : hvC c pt least bud = 1 ∧ hvL c pt least bud = [] := by
  have e : hvC c pt least bud = 1 := by unfold hvC; rw [if_pos h]
  exact ⟨e, by unfold hvL; rw [if_neg (by omega)]⟩
theorem hv_over {c : Cfg} {pt : Nat → Int → Int} {least bud : Int} (h1 : 1 ≤ least) (h2 : bud ≤ 4096) (h : bud < ((countQ pt least c.bt.toNat (c.bt.toNat + 1) : Nat) : Int)) : hvC c pt least bud = 7 ∧ hvL c pt least bud = [] := by
  have e : hvC c pt least bud = 7 := by unfold hvC; rw [if_neg (by omega), if_pos h]
  exact ⟨e, by unfold hvL; rw [if_neg (by omega)]⟩
theorem hv_yes {c : Cfg} {pt : Nat → Int → Int} {least bud : Int} (h1 : 1 ≤ least) (h2 : bud ≤ 4096) (h : ((countQ pt least c.bt.toNat (c.bt.toNat + 1) : Nat) : Int) ≤ bud) : hvC c pt least bud = 0 ∧ hvL c pt least bud = foundQ pt least c.bt.toNat (c.bt.toNat + 1) := by
  have e : hvC c pt least bud = 0 := by unfold hvC; rw [if_neg (by omega), if_neg (by omega)]
  exact ⟨e, by unfold hvL; rw [if_pos e]⟩
theorem hr_no {c : Cfg} {pt : Nat → Int → Int} {least bud : Int} (h : hvC c pt least bud ≠ 0) : hrC c pt least bud = hvC c pt least bud ∧ hrL c pt least bud = [] := by
  have e : hrC c pt least bud = hvC c pt least bud := by unfold hrC; rw [if_neg h]
  exact ⟨e, by unfold hrL; rw [e, if_neg h]⟩
theorem hr_yes {c : Cfg} {pt : Nat → Int → Int} {least bud : Int} (h : hvC c pt least bud = 0) {K : List Kp} (hk : hierQ c pt least = some K) : hrC c pt least bud = 0 ∧ hrL c pt least bud = K := by
  have e : hrC c pt least bud = 0 := by unfold hrC; rw [if_pos h, hk]; rfl
  exact ⟨e, by unfold hrL; rw [if_pos e, hk]; rfl⟩
theorem hr_over {c : Cfg} {pt : Nat → Int → Int} {least bud : Int} (h : hvC c pt least bud = 0) (hk : hierQ c pt least = none) : hrC c pt least bud = 4 ∧ hrL c pt least bud = [] := by
  have e : hrC c pt least bud = 4 := by unfold hrC; rw [if_pos h, hk]; rfl
  exact ⟨e, by unfold hrL; rw [if_neg (by omega)]⟩
end Go.Proofs.YtmdkdjgamhaeoaaGreat.Hvy
/- What the document's Heavy has asked, and told, when so many levels and so many pieces of the next one are gone through. By hand. -/
namespace Go.Proofs.YtmdkdjgamhaeoaaGreat.Hvy
open Go Go.RowKit Lw Grd Lin Con Shp Sk Exa Lev Stk Pcs Spn Qnt
set_option linter.unusedVariables false
/-- All that was asked of the levels down to this one. -/
def allA (pt : Nat → Int → Int) (least : Int) (B : Nat) : Nat → List (Nat × Nat)
  | 0 => [(B, 0)]
  | d + 1 => allA pt least B d ++ (askQ pt least B (d + 1)).map (fun i => (B - (d + 1), i))
/-- What is asked when t pieces of level B - d are gone through. -/
def rowA (pt : Nat → Int → Int) (least : Int) (B d t : Nat) : List (Nat × Nat) := allA pt least B d ++ (if d < B then (halvesQ pt least (B - d) ((askQ pt least B d).take t)).map (fun i => (B - (d + 1), i)) else [])
def outA (pt : Nat → Int → Int) (least : Int) (B d t : Nat) : List ((Nat × Nat) × Int) := foundQ pt least B d ++ tellQ pt least (B - d) ((askQ pt least B d).take t)
theorem take_next {α : Type} {l : List α} {t : Nat} {a : α} (h : l[t]? = some a) : l.take (t + 1) = l.take t ++ [a] := by
  obtain ⟨h1, h2⟩ := List.getElem?_eq_some_iff.1 h
  rw [List.take_succ_eq_append_getElem h1, h2]
theorem foundQ_le (pt : Nat → Int → Int) (least : Int) (B : Nat) : ∀ d : Nat, (foundQ pt least B d).length ≤ countQ pt least B d
  | 0 => Nat.le_refl _
  | d + 1 => by
    have ih := foundQ_le pt least B d
    show (foundQ pt least B d ++ tellQ pt least (B - d) (askQ pt least B d)).length ≤ countQ pt least B d + (askQ pt least B d).length
    rw [List.length_append]
    have h2 : (tellQ pt least (B - d) (askQ pt least B d)).length ≤ (askQ pt least B d).length := by
      unfold tellQ
      rw [List.length_map]
      exact List.length_filter_le _ _
    omega
/-- A row of one's own, of cells of any size, as a thing. -/
def ownK (B : Nat) (e : TypeId) (K : Nat) (v : Value) (n : Nat) (cs : List Value) : Thing where
  I := fun w => w.ownsRow B e K v n cs
  F := fun k => v.ownBlock = some k
  keep := fun w w' H h hk hf => hk.own h (fun q hq => hf q hq)
  lt := fun w h k hk => own_lt h hk
theorem okI {w : World} {B : Nat} {e : TypeId} {K : Nat} {v : Value} {n : Nat} {cs : List Value} (h : (ownK B e K v n cs).I w) : w.ownsRow B e K v n cs := h
theorem kept_grownK {w w' : World} {B : Nat} {e : TypeId} {K : Nat} {v : Value} {n : Nat} {cs : List Value} (hg : w.grownBy w' v.ownBlock) : Kept (ownK B e K v n cs).F w w' := (Kept.refl (fun q => v.ownBlock = some q) w).grown hg (fun q hq => .inl hq)
theorem okF {B : Nat} {e : TypeId} {K : Nat} {v : Value} {n m cap g S : Nat} {cs ds : List Value} (h : v.ownBlock = some g ∨ g = S) : ∀ k, (ownK B e K (.slice (some ⟨g, 0, none⟩) m cap) m ds).F k → (ownK B e K v n cs).F k ∨ S ≤ k := by
  intro k hk
  have e2 : g = k := by
    have : some g = some k := hk
    injection this
  subst e2
  rcases h with h | h
  · exact .inl h
  · exact .inr (by omega)
end Go.Proofs.YtmdkdjgamhaeoaaGreat.Hvy
