/- Texts that the statements of this seat lean on, put together: StkIt, StkFst, StkPt, StkPlain, SpnNum, QntPt, QntCut, StkUpd, StkApp, StkGet, QntHalf. -/
import Derived.Test.YtiblpdjehknbcaaGreatMc
import Derived.Test.YtiblpdjehknbcaaGreatMd
import Derived.Test.YtiblpdjehknbcaaGreatMf
import Derived.Test.YtiblpdjehknbcaaGreatMg
import Derived.Test.YtiblpdjehknbcaaGreatMh
import Derived.Test.YtiblpdjehknbcaaGreatMi
import Derived.Test.YtiblpdjehknbcaaGreatMj
import Derived.Test.YtiblpdjehknbcaaGreatMk
import Derived.Shelf.Abstract
import Derived.Shelf.RegionOpen
import Derived.WalkKit
import Derived.OwnWalkIn
import Derived.TacticsInMore
import Derived.LoopNIn
import Derived.LoopIn
import Derived.Deep.LoopGhost
import Derived.Deep.RegionHeld3
import Derived.Deep.DeepCutAuto
import Derived.Deep.QuietTactic
import Derived.BigQuiet
import Derived.RangeFuncBox
/- The code's iterator over levels: what it hands to a round, and what it asks of it. By hand. -/
namespace Go.Proofs.YtiblpdjehknbcaaGreat.Stk
open Go Go.RowKit Lw Grd Lin Con Shp Sk Exa Lev
set_option linter.unusedVariables false
set_option linter.unusedSimpArgs false
attribute [local go_sem] Oper.semAt_some
/-- One of N levels. -/
abbrev Lof (N : Nat) := {j : Nat // j < N}
/-- What a round is handed. -/
def encL (vals : List Value) (c : Cfg) (k : Int) (x : Lof vals.length) : Array Value := #[vals[x.1]'x.2, .int .u64 (aboveV c x.1 k)]
/-- The first levels, one behind another. -/
def UpTo {N : Nat} (pre : List (Lof N)) : Prop := pre.map (fun x => x.1) = List.range pre.length
theorem UpTo.nil (N : Nat) : UpTo ([] : List (Lof N)) := rfl
theorem UpTo.snoc {N : Nat} {pre : List (Lof N)} {x : Lof N} : UpTo (pre ++ [x]) ↔ UpTo pre ∧ x.1 = pre.length := by
  unfold UpTo
  rw [List.map_append, List.length_append, List.length_singleton, List.range_succ]
  constructor
  · intro h
    obtain ⟨h1, h2⟩ := List.append_inj h (by simp)
    exact ⟨h1, by simpa using h2⟩
  · rintro ⟨h1, h2⟩
    rw [h1, ← h2]
    rfl
theorem grown_of {w w' : World} (h : Below w.heap.size w w') : w.grownBy w' none := ⟨h.1, h.2, h.3, h.4, fun k hk _ => h.5 k hk⟩
set_option maxRecDepth 100000 in
set_option maxHeartbeats 2000000 in
theorem above_iter (m : Nat) (hm : 1 ≤ m) (c : Cfg) (hc : c.Ok) (k : Int) (k0 : 0 ≤ k) (k1 : k ≤ 18446744073709551615) (l bs bk b g cap : Nat) (G : Nat → Prop) (vals : List Value) (hN : vals.length ≤ 60) (hbs : G bs) (hbk : G bk) (hb : G b) (hg : G g) (J Jx : List (Lof vals.length) → World → Prop)
    (W : World) (hG : ∀ k, G k → k < W.heap.size) (hJ : AbidesFrom W.heap.size J)
    (hY : ∀ pre x W, J pre W → pre.length < vals.length → YieldAt Fence.wide (m - 1) Tryz.prog l (encL vals c k x) W fun e W' => (e = .returned (.bool true) ∧ J (pre ++ [x]) W' ∧ KeptG G W W') ∨ (e = .returned (.bool false) ∧ Jx (pre ++ [x]) W'))
    (h1 : W.cell? ⟨bs, 0, none⟩ = some (.pointer (some ⟨b, 0, none⟩))) (h2 : W.cell? ⟨bk, 0, none⟩ = some (.int .u64 k)) (h3 : W.heap[b]? = some (.cells #[.int .i64 c.bt, .int .i64 c.rw, .int .i64 c.wd, .int .i64 c.md, .int .u64 c.sd, .slice (some ⟨g, 0, none⟩) vals.length cap] 73 (0, 0))) (h4 : ∀ (j : Nat) (v : Value), vals[j]? = some v → W.cell? ⟨g, j, none⟩ = some v) (h0 : J [] W) :
    CallsIn Fence.wide m Tryz.prog 60 #[.func (.yield l) #[] #[], .pointer (some ⟨bs, 0, none⟩), .pointer (some ⟨bk, 0, none⟩)] W fun e W' => (∃ v, e = .returned v) ∧ ((∃ xs, (UpTo xs ∧ xs.length = vals.length) ∧ J xs W') ∨ (∃ pre, UpTo pre ∧ Jx pre W')) := by
  have hbx : (boxT b 73 #[.int .i64 c.bt, .int .i64 c.rw, .int .i64 c.wd, .int .i64 c.md, .int .u64 c.sd, .slice (some ⟨g, 0, none⟩) vals.length cap]).I W := h3
  refine callsIn_of_wp Tryz.func60 rfl trivial ?_ rfl
  simp only [Tryz.ntmps60, List.size_toArray, List.length_cons, List.length_nil, Nat.reduceAdd, Nat.reduceSub, Array.replicate_succ, Array.replicate_zero, List.push_toArray, List.append_toArray, List.nil_append, List.cons_append]
  have c0 : W.cell? ⟨b, 0, none⟩ = some (.int .i64 c.bt) := box_cell hbx rfl
  have c1 : W.cell? ⟨b, 1, none⟩ = some (.int .i64 c.rw) := box_cell hbx rfl
  have c2 : W.cell? ⟨b, 2, none⟩ = some (.int .i64 c.wd) := box_cell hbx rfl
  have c3 : W.cell? ⟨b, 3, none⟩ = some (.int .i64 c.md) := box_cell hbx rfl
  have c4 : W.cell? ⟨b, 4, none⟩ = some (.int .u64 c.sd) := box_cell hbx rfl
  have c5 : W.cell? ⟨b, 5, none⟩ = some (.slice (some ⟨g, 0, none⟩) vals.length cap) := box_cell hbx rfl
  gi_wp2
  gi_loopw [13] (fun i wr => ∃ (j : Nat) (pre : List (Lof vals.length)), j ≤ vals.length ∧ i = .int .i64 j ∧ UpTo pre ∧ pre.length = j ∧ J pre wr ∧ KeptG G W wr)
    (fun i _ => vals.length - (intOf i).toNat)
  case atStart => exact ⟨0, [], Nat.zero_le _, rfl, UpTo.nil _, rfl, h0, KeptG.refl _ _⟩
  case round =>
    obtain ⟨j, pre, hj, rfl, hup, hlen, hJs, hkp⟩ := hrel
    by_cases hlt : j < vals.length
    · obtain ⟨v, hv⟩ : ∃ v, vals[j]? = some v := ⟨_, List.getElem?_eq_getElem hlt⟩
      have hv2 : vals[j]'hlt = v := by
        have h9 := List.getElem?_eq_getElem hlt
        rw [hv] at h9
        exact (Option.some.inj h9).symm
      have hcv := hkp.cell (h4 j v hv) hg
      have d1 := hkp.cell h1 hbs
      have d2 := hkp.cell h2 hbk
      have e0 := hkp.cell c0 hb
      have e1 := hkp.cell c1 hb
      have e2 := hkp.cell c2 hb
      have e3 := hkp.cell c3 hb
      have e4 := hkp.cell c4 hb
      gi_wp2
      refine wpIn_wide.2 ?_
      go_region_with (go_at_call 61; (with_reducible refine (above_any c j k _ hc (by omega) (by omega) k0 k1).mono ?_); rintro e w' ⟨rfl, hbw⟩; have hb2 : Below wr.heap.size wr w' := (Below.drew (Below.refl _ wr)).trans hbw; have hJ2 := hJ pre wr w' none hJs (grown_of hb2) (fun r e => by cases e); obtain ⟨fn, tmps, assign, body, hy, hR⟩ := hY pre ⟨j, hlt⟩ w' hJ2 (by omega); have hk2 := hkp.trans (KeptG.of_below (fun k hk => Nat.lt_of_lt_of_le (hG k hk) hkp.size) hb2); simp only [encL, hv2] at hy)
      all_goals
        gi_wp2
        refine hR.mono ?_
        rintro e W3 (⟨rfl, hJ3, hk3⟩ | ⟨rfl, hJx3⟩)
        · gi_wp2
          go_roundw
          case rel => exact ⟨j + 1, pre ++ [⟨j, hlt⟩], by omega, by simp, UpTo.snoc.2 ⟨hup, hlen.symm⟩, by simp [hlen], hJ3, hk2.trans hk3⟩
          case measure => simp [intOf]; omega
        · gi_wp2
          refine bodyPost_ret (results_none rfl _ _ _) rfl ?_
          exact ⟨⟨_, rfl⟩, .inr ⟨pre ++ [⟨j, hlt⟩], UpTo.snoc.2 ⟨hup, hlen.symm⟩, hJx3⟩⟩
    · obtain rfl : j = vals.length := by omega
      gi_wp2
      go_end0
      exact ⟨⟨_, rfl⟩, .inl ⟨pre, ⟨hup, hlen⟩, hJs⟩⟩
end Go.Proofs.YtiblpdjehknbcaaGreat.Stk
/- The code's first error over all levels: a range over a function. Printed by wip/gen/stk10.py. -/
namespace Go.Proofs.YtiblpdjehknbcaaGreat.Stk
open Go Go.RowKit Lw Grd Lin Con Shp Sk Exa Lev Go.Shelf
set_option linter.unusedVariables false
set_option linter.unusedSimpArgs false
attribute [local go_sem] Oper.semAt_some
theorem sabove_any (p : Addr) (k : Int) (w : World) :
    Calls Tryz.prog 34 #[.pointer (some p), .int .u64 k] w fun e w' => e = .returned (.func (.func 60) #[] #[.pointer (some ⟨w.heap.size, 0, none⟩), .pointer (some ⟨w.heap.size + 1, 0, none⟩)]) ∧ w' = (w.alloc (.cells #[.pointer (some p)] 30)).alloc (.cells #[.int .u64 k] 22) := by
  go_enter Tryz.func34, Tryz.ntmps34
  go_wp2
  go_ret
  exact ⟨rfl, rfl⟩
theorem HoldC.drop {F0 : Nat → Prop} {w0 w : World} {t : Thing} {ts : List Thing} (h : HoldC F0 w0 w (t :: ts)) : HoldC F0 w0 w ts :=
  ⟨⟨h.1.1, fun u hu => h.1.2.1 u (List.mem_cons_of_mem _ hu), h.1.2.2.2⟩, fun u hu => h.2 u (List.mem_cons_of_mem _ hu)⟩
theorem holdc_store {F0 : Nat → Prop} {w0 w : World} {fs ts : List Thing} {b : Nat} {e : TypeId} {v v' : Value} (h : HoldC F0 w0 w (fs ++ boxT b e #[v] :: ts)) : HoldC F0 w0 (w.setCell ⟨b, 0, none⟩ v') (fs ++ boxT b e #[v'] :: ts) := by
  have hb : Boxed w b e v := h.i (t := boxT b e #[v]) (by simp)
  have hb2 := hb.set v'
  refine h.turn (boxT b e #[v']) hb2 (Kept.set (F := (boxT b e #[v]).F) (Kept.refl _ _) (.inl rfl) 0 v') (fun k hk => .inl hk) (cel_box hb2)
set_option maxRecDepth 100000 in
set_option maxHeartbeats 2000000 in
theorem first_1 (c : Cfg) (k : Int) (vals : List Value) (lb : Array Value) (bd : Nat) (F0 : Nat → Prop) (w0 w : World) (gs ls0 : List Thing)
    (P : List (Lof vals.length) → List Thing → Prop) (Px : List (Lof vals.length) → Int → List Thing → Prop)
    (h0 : HoldC F0 w0 w (gs ++ ls0)) (hP : P [] ls0)
    (hseq : ∀ (w1 : World) (m : Nat), 1 ≤ m → Below w.heap.size w w1 → SeqStopsK Fence.wide m Tryz.prog 60 lb (encL vals c k) (KeptG (manyT gs).F) (fun xs => UpTo xs ∧ xs.length = vals.length) UpTo vals.length w1)
    (hcall : ∀ (us : List Thing) (pre : List (Lof vals.length)) (ls : List Thing) (x : Lof vals.length) (W : World), HoldC F0 w0 W (us ++ (gs ++ ls)) → P pre ls → pre.length < vals.length →
      Calls Tryz.prog 35 #[vals[x.1]'x.2, .int .u64 (aboveV c x.1 k), .pointer (some ⟨bd, 0, none⟩)] W fun e W' => ∃ (code : Int) (ls' : List Thing), e = .returned (.int .i64 code) ∧ KeepsOthers W W' ∧ KeptG (manyT gs).F W W' ∧ HoldC F0 w0 W' (us ++ (gs ++ ls')) ∧ (code = 0 → P (pre ++ [x]) ls') ∧ (¬ code = 0 → Px (pre ++ [x]) code ls')) :
    Calls Tryz.prog 33 #[.func (.func 60) #[] lb, .func (.func 35) #[] #[.pointer (some ⟨bd, 0, none⟩)]] w fun e W' =>
      ∃ ls, HoldC F0 w0 W' (gs ++ ls) ∧ ((e = .returned (.int .i64 0) ∧ ∃ xs, (UpTo xs ∧ xs.length = vals.length) ∧ P xs ls) ∨ (∃ pre code, UpTo pre ∧ ¬ code = 0 ∧ e = .returned (.int .i64 code) ∧ Px pre code ls)) := by
  refine (callsIn_wide (n := 9)).1 ?_
  refine callsIn_of_wp_marks Tryz.func33 rfl trivial ?_ rfl
  simp only [Tryz.ntmps33, List.size_toArray, List.length_cons, List.length_nil, Nat.reduceAdd, Nat.reduceSub, Array.replicate_succ, Array.replicate_zero, List.push_toArray, List.append_toArray, List.nil_append, List.cons_append]
  gi_wp2
  have B1 : Below w.heap.size w (w.alloc (.cells #[.func (.func 35) #[] #[.pointer (some ⟨bd, 0, none⟩)]] 83)) := Lw.below_alloc (Below.refl _ _) _
  have B2 := Lw.below_alloc (Below.refl _ (w.alloc (.cells #[.func (.func 35) #[] #[.pointer (some ⟨bd, 0, none⟩)]] 83))) (.cells #[.int .i64 0] 31)
  have h1 := h0.push (boxT w.heap.size 83 #[.func (.func 35) #[] #[.pointer (some ⟨bd, 0, none⟩)]]) B1 (heap_alloc_new w _) (fun k hk => Nat.le_of_eq hk.symm) (cel_box (heap_alloc_new w _))
  have h2 := h1.push (boxT (w.heap.size + 1) 31 #[.int .i64 0]) B2 (by have := heap_alloc_new (w.alloc (.cells #[.func (.func 35) #[] #[.pointer (some ⟨bd, 0, none⟩)]] 83)) (.cells #[.int .i64 0] 31); rw [World.size_alloc] at this; exact this) (fun k hk => Nat.le_of_eq (by simp; exact hk.symm)) (cel_box (by have := heap_alloc_new (w.alloc (.cells #[.func (.func 35) #[] #[.pointer (some ⟨bd, 0, none⟩)]] 83)) (.cells #[.int .i64 0] 31); rw [World.size_alloc] at this; exact this))
  have hG : ∀ k, (manyT gs).F k → k < w.heap.size := fun k hk => by
    obtain ⟨t, ht, hk2⟩ := hk
    exact t.lt w (h0.i (List.mem_append_left _ ht)) k hk2
  have hw0 : w0.heap.size ≤ w.heap.size := h0.1.1.size
  have hI : ∀ (r : Int) (us : List Thing), OwnFrom w.heap.size (fun (_ : Unit) W => HoldC F0 w0 W us) := fun r us => HoldC.own hw0 (fun _ => us)
  refine wpIn_rangeFunc_ownG rfl (by omega) (gf := 60) (lb := lb) rfl trivial (enters_of Tryz.func60 (by kernel_rfl) rfl)
    (hseq _ (9 - 1) (by omega) (B1.trans (B2.mono (by simp)))) (fun h k => KeptG.trans h k) (KeptG.put (fun k hk => by have := hG k hk; simp; omega)) (Below.refl _ _) (fun _ => rfl)
    (fun pre W => ∃ ls, HoldC F0 w0 W (boxT (w.heap.size + 1) 31 #[.int .i64 0] :: boxT w.heap.size 83 #[.func (.func 35) #[] #[.pointer (some ⟨bd, 0, none⟩)]] :: (gs ++ ls)) ∧ P pre ls)
    (fun j pre W => j = .ret ∧ ∃ ls code, HoldC F0 w0 W (boxT (w.heap.size + 1) 31 #[.int .i64 code] :: boxT w.heap.size 83 #[.func (.func 35) #[] #[.pointer (some ⟨bd, 0, none⟩)]] :: (gs ++ ls)) ∧ ¬ code = 0 ∧ Px pre code ls)
    (by
      rintro s A B row ⟨ls, h, hp⟩ hg hr
      exact ⟨ls, HoldC.own (Nat.le_trans hw0 (by simp; omega)) (fun (_ : Unit) => _) () A B row h hg hr, hp⟩)
    (by
      rintro j s A B row ⟨hj, ls, code, h, hne, hp⟩ hg hr
      exact ⟨hj, ls, code, HoldC.own (Nat.le_trans hw0 (by simp; omega)) (fun (_ : Unit) => _) () A B row h hg hr, hne, hp⟩)
    ⟨ls0, h2, hP⟩
    (fun x => { tmps := #[.func (.func 60) #[] lb, .func (.func 35) #[] #[.pointer (some ⟨bd, 0, none⟩)], undef, .pointer (some ⟨w.heap.size, 0, none⟩), .pointer (some ⟨w.heap.size + 1, 0, none⟩), vals[x.1]'x.2, .int .u64 (aboveV c x.1 k), undef, .func (.func 60) #[] lb, vals[x.1]'x.2, .int .u64 (aboveV c x.1 k), undef, undef, undef, undef, undef, undef, undef], defers := [] }) ?assign ?body ?done ?stop
  case assign =>
    intro l x W K hK
    simp only [encL]
    gi_wp2
    exact hK
  case body =>
    rintro l pre x W ⟨ls, hh, hp⟩ hlen
    have b1 := box_cell (hh.i (t := boxT w.heap.size 83 #[.func (.func 35) #[] #[.pointer (some ⟨bd, 0, none⟩)]]) (by simp)) (i := 0) rfl
    gi_wp2_with (refine ⟨trivial, ?_⟩; gi_at_call 35; refine (CallsIn.inRound l (callsIn_wide.2 (hcall [boxT (w.heap.size + 1) 31 #[.int .i64 0], boxT w.heap.size 83 #[.func (.func 35) #[] #[.pointer (some ⟨bd, 0, none⟩)]]] pre ls x W hh hp hlen))).mono ?_; rintro e W' ⟨code, ls', rfl, hko, hkg, hh', hz, hnz⟩; have r1 : Boxed W' (w.heap.size + 1) 31 (.int .i64 0) := hh'.i (t := boxT (w.heap.size + 1) 31 #[.int .i64 0]) (by simp); have r2 := r1.cell; have r3 := r1.frozen)
    · rename_i hcc
      have hc0 : ¬ code = 0 := by simpa using hcc
      have hs := holdc_store (v' := .int .i64 code) (fs := []) hh'
      exact ⟨(hko.trans (KeepsOthers.setCell _ _ _)).from _, rfl, ls', code, hs, hc0, hnz hc0⟩
    · rename_i hcc
      have hc0 : code = 0 := by simpa using hcc
      exact ⟨hko.from _, hkg, ls', hh', hz hc0⟩
  case done =>
    rintro D ys W hD hys ⟨ls, hh, hp⟩ hK
    have r1 : Boxed W (w.heap.size + 1) 31 (.int .i64 0) := hh.i (t := boxT (w.heap.size + 1) 31 #[.int .i64 0]) (by simp)
    have r2 := r1.cell
    have r3 := r1.frozen
    gi_wp2
    have hs := holdc_store (v' := .int .i64 0) (fs := []) hh
    have hK' := (KeepsOthers.setCell W ⟨w.heap.size + 1, 0, none⟩ (.int .i64 0)).same D _ hK rfl
    refine ⟨by simp, .inl ⟨_, _, rfl, run_takeDeferred hK', ?_⟩⟩
    have hs2 := HoldC.own (B := w.heap.size) hw0 (fun (_ : Unit) => boxT (w.heap.size + 1) 31 #[.int .i64 0] :: boxT w.heap.size 83 #[.func (.func 35) #[] #[.pointer (some ⟨bd, 0, none⟩)]] :: (gs ++ ls)) () _ _ _ hs (grownBy_putObj' _ D (.deferred none)) (fun r e => by cases e; exact ⟨by simp at hD; omega, _, hK', rfl⟩)
    have hc5 : (((W.setCell ⟨w.heap.size + 1, 0, none⟩ (.int .i64 0)).putObj D (.deferred none))).cell? ⟨w.heap.size + 1, 0, none⟩ = some (.int .i64 0) := box_cell (hs2.i (t := boxT (w.heap.size + 1) 31 #[.int .i64 0]) (by simp)) (i := 0) rfl
    refine ⟨.int .i64 0, ?_, ls, hs2.drop.drop, .inl ⟨rfl, ys, hys, hp⟩⟩
    simp [results, Tryz.f33, go_sem, hc5]
  case stop =>
    rintro D j pre W hD hpre ⟨rfl, ls, code, hh, hne, hp⟩ hK
    gi_wp2
    refine ⟨by simp, .inl ⟨_, _, rfl, run_takeDeferred hK, ?_⟩⟩
    have hs2 := HoldC.own (B := w.heap.size) hw0 (fun (_ : Unit) => boxT (w.heap.size + 1) 31 #[.int .i64 code] :: boxT w.heap.size 83 #[.func (.func 35) #[] #[.pointer (some ⟨bd, 0, none⟩)]] :: (gs ++ ls)) () _ _ _ hh (grownBy_putObj' _ D (.deferred none)) (fun r e => by cases e; exact ⟨by simp at hD; omega, _, hK, rfl⟩)
    have hc5 : (W.putObj D (.deferred none)).cell? ⟨w.heap.size + 1, 0, none⟩ = some (.int .i64 code) := box_cell (hs2.i (t := boxT (w.heap.size + 1) 31 #[.int .i64 code]) (by simp)) (i := 0) rfl
    refine ⟨.int .i64 code, ?_, ls, hs2.drop.drop, .inr ⟨pre, code, hpre, hne, rfl, hp⟩⟩
    simp [results, Tryz.f33, go_sem, hc5]
set_option maxRecDepth 100000 in
set_option maxHeartbeats 2000000 in
theorem first_2 (c : Cfg) (k : Int) (vals : List Value) (lb : Array Value) (bd : Nat) (F0 : Nat → Prop) (w0 w : World) (gs ls0 : List Thing)
    (P : List (Lof vals.length) → List Thing → Prop) (Px : List (Lof vals.length) → Int → List Thing → Prop)
    (h0 : HoldC F0 w0 w (gs ++ ls0)) (hP : P [] ls0)
    (hseq : ∀ (w1 : World) (m : Nat), 1 ≤ m → Below w.heap.size w w1 → SeqStopsK Fence.wide m Tryz.prog 60 lb (encL vals c k) (KeptG (manyT gs).F) (fun xs => UpTo xs ∧ xs.length = vals.length) UpTo vals.length w1)
    (hcall : ∀ (us : List Thing) (pre : List (Lof vals.length)) (ls : List Thing) (x : Lof vals.length) (W : World), HoldC F0 w0 W (us ++ (gs ++ ls)) → P pre ls → pre.length < vals.length →
      Calls Tryz.prog 36 #[vals[x.1]'x.2, .int .u64 (aboveV c x.1 k), .pointer (some ⟨bd, 0, none⟩)] W fun e W' => ∃ (code : Int) (ls' : List Thing), e = .returned (.int .i64 code) ∧ KeepsOthers W W' ∧ KeptG (manyT gs).F W W' ∧ HoldC F0 w0 W' (us ++ (gs ++ ls')) ∧ (code = 0 → P (pre ++ [x]) ls') ∧ (¬ code = 0 → Px (pre ++ [x]) code ls')) :
    Calls Tryz.prog 33 #[.func (.func 60) #[] lb, .func (.func 36) #[] #[.pointer (some ⟨bd, 0, none⟩)]] w fun e W' =>
      ∃ ls, HoldC F0 w0 W' (gs ++ ls) ∧ ((e = .returned (.int .i64 0) ∧ ∃ xs, (UpTo xs ∧ xs.length = vals.length) ∧ P xs ls) ∨ (∃ pre code, UpTo pre ∧ ¬ code = 0 ∧ e = .returned (.int .i64 code) ∧ Px pre code ls)) := by
  refine (callsIn_wide (n := 9)).1 ?_
  refine callsIn_of_wp_marks Tryz.func33 rfl trivial ?_ rfl
  simp only [Tryz.ntmps33, List.size_toArray, List.length_cons, List.length_nil, Nat.reduceAdd, Nat.reduceSub, Array.replicate_succ, Array.replicate_zero, List.push_toArray, List.append_toArray, List.nil_append, List.cons_append]
  gi_wp2
  have B1 : Below w.heap.size w (w.alloc (.cells #[.func (.func 36) #[] #[.pointer (some ⟨bd, 0, none⟩)]] 83)) := Lw.below_alloc (Below.refl _ _) _
  have B2 := Lw.below_alloc (Below.refl _ (w.alloc (.cells #[.func (.func 36) #[] #[.pointer (some ⟨bd, 0, none⟩)]] 83))) (.cells #[.int .i64 0] 31)
  have h1 := h0.push (boxT w.heap.size 83 #[.func (.func 36) #[] #[.pointer (some ⟨bd, 0, none⟩)]]) B1 (heap_alloc_new w _) (fun k hk => Nat.le_of_eq hk.symm) (cel_box (heap_alloc_new w _))
  have h2 := h1.push (boxT (w.heap.size + 1) 31 #[.int .i64 0]) B2 (by have := heap_alloc_new (w.alloc (.cells #[.func (.func 36) #[] #[.pointer (some ⟨bd, 0, none⟩)]] 83)) (.cells #[.int .i64 0] 31); rw [World.size_alloc] at this; exact this) (fun k hk => Nat.le_of_eq (by simp; exact hk.symm)) (cel_box (by have := heap_alloc_new (w.alloc (.cells #[.func (.func 36) #[] #[.pointer (some ⟨bd, 0, none⟩)]] 83)) (.cells #[.int .i64 0] 31); rw [World.size_alloc] at this; exact this))
  have hG : ∀ k, (manyT gs).F k → k < w.heap.size := fun k hk => by
    obtain ⟨t, ht, hk2⟩ := hk
    exact t.lt w (h0.i (List.mem_append_left _ ht)) k hk2
  have hw0 : w0.heap.size ≤ w.heap.size := h0.1.1.size
  have hI : ∀ (r : Int) (us : List Thing), OwnFrom w.heap.size (fun (_ : Unit) W => HoldC F0 w0 W us) := fun r us => HoldC.own hw0 (fun _ => us)
  refine wpIn_rangeFunc_ownG rfl (by omega) (gf := 60) (lb := lb) rfl trivial (enters_of Tryz.func60 (by kernel_rfl) rfl)
    (hseq _ (9 - 1) (by omega) (B1.trans (B2.mono (by simp)))) (fun h k => KeptG.trans h k) (KeptG.put (fun k hk => by have := hG k hk; simp; omega)) (Below.refl _ _) (fun _ => rfl)
    (fun pre W => ∃ ls, HoldC F0 w0 W (boxT (w.heap.size + 1) 31 #[.int .i64 0] :: boxT w.heap.size 83 #[.func (.func 36) #[] #[.pointer (some ⟨bd, 0, none⟩)]] :: (gs ++ ls)) ∧ P pre ls)
    (fun j pre W => j = .ret ∧ ∃ ls code, HoldC F0 w0 W (boxT (w.heap.size + 1) 31 #[.int .i64 code] :: boxT w.heap.size 83 #[.func (.func 36) #[] #[.pointer (some ⟨bd, 0, none⟩)]] :: (gs ++ ls)) ∧ ¬ code = 0 ∧ Px pre code ls)
    (by
      rintro s A B row ⟨ls, h, hp⟩ hg hr
      exact ⟨ls, HoldC.own (Nat.le_trans hw0 (by simp; omega)) (fun (_ : Unit) => _) () A B row h hg hr, hp⟩)
    (by
      rintro j s A B row ⟨hj, ls, code, h, hne, hp⟩ hg hr
      exact ⟨hj, ls, code, HoldC.own (Nat.le_trans hw0 (by simp; omega)) (fun (_ : Unit) => _) () A B row h hg hr, hne, hp⟩)
    ⟨ls0, h2, hP⟩
    (fun x => { tmps := #[.func (.func 60) #[] lb, .func (.func 36) #[] #[.pointer (some ⟨bd, 0, none⟩)], undef, .pointer (some ⟨w.heap.size, 0, none⟩), .pointer (some ⟨w.heap.size + 1, 0, none⟩), vals[x.1]'x.2, .int .u64 (aboveV c x.1 k), undef, .func (.func 60) #[] lb, vals[x.1]'x.2, .int .u64 (aboveV c x.1 k), undef, undef, undef, undef, undef, undef, undef], defers := [] }) ?assign ?body ?done ?stop
  case assign =>
    intro l x W K hK
    simp only [encL]
    gi_wp2
    exact hK
  case body =>
    rintro l pre x W ⟨ls, hh, hp⟩ hlen
    have b1 := box_cell (hh.i (t := boxT w.heap.size 83 #[.func (.func 36) #[] #[.pointer (some ⟨bd, 0, none⟩)]]) (by simp)) (i := 0) rfl
    gi_wp2_with (refine ⟨trivial, ?_⟩; gi_at_call 36; refine (CallsIn.inRound l (callsIn_wide.2 (hcall [boxT (w.heap.size + 1) 31 #[.int .i64 0], boxT w.heap.size 83 #[.func (.func 36) #[] #[.pointer (some ⟨bd, 0, none⟩)]]] pre ls x W hh hp hlen))).mono ?_; rintro e W' ⟨code, ls', rfl, hko, hkg, hh', hz, hnz⟩; have r1 : Boxed W' (w.heap.size + 1) 31 (.int .i64 0) := hh'.i (t := boxT (w.heap.size + 1) 31 #[.int .i64 0]) (by simp); have r2 := r1.cell; have r3 := r1.frozen)
    · rename_i hcc
      have hc0 : ¬ code = 0 := by simpa using hcc
      have hs := holdc_store (v' := .int .i64 code) (fs := []) hh'
      exact ⟨(hko.trans (KeepsOthers.setCell _ _ _)).from _, rfl, ls', code, hs, hc0, hnz hc0⟩
    · rename_i hcc
      have hc0 : code = 0 := by simpa using hcc
      exact ⟨hko.from _, hkg, ls', hh', hz hc0⟩
  case done =>
    rintro D ys W hD hys ⟨ls, hh, hp⟩ hK
    have r1 : Boxed W (w.heap.size + 1) 31 (.int .i64 0) := hh.i (t := boxT (w.heap.size + 1) 31 #[.int .i64 0]) (by simp)
    have r2 := r1.cell
    have r3 := r1.frozen
    gi_wp2
    have hs := holdc_store (v' := .int .i64 0) (fs := []) hh
    have hK' := (KeepsOthers.setCell W ⟨w.heap.size + 1, 0, none⟩ (.int .i64 0)).same D _ hK rfl
    refine ⟨by simp, .inl ⟨_, _, rfl, run_takeDeferred hK', ?_⟩⟩
    have hs2 := HoldC.own (B := w.heap.size) hw0 (fun (_ : Unit) => boxT (w.heap.size + 1) 31 #[.int .i64 0] :: boxT w.heap.size 83 #[.func (.func 36) #[] #[.pointer (some ⟨bd, 0, none⟩)]] :: (gs ++ ls)) () _ _ _ hs (grownBy_putObj' _ D (.deferred none)) (fun r e => by cases e; exact ⟨by simp at hD; omega, _, hK', rfl⟩)
    have hc5 : (((W.setCell ⟨w.heap.size + 1, 0, none⟩ (.int .i64 0)).putObj D (.deferred none))).cell? ⟨w.heap.size + 1, 0, none⟩ = some (.int .i64 0) := box_cell (hs2.i (t := boxT (w.heap.size + 1) 31 #[.int .i64 0]) (by simp)) (i := 0) rfl
    refine ⟨.int .i64 0, ?_, ls, hs2.drop.drop, .inl ⟨rfl, ys, hys, hp⟩⟩
    simp [results, Tryz.f33, go_sem, hc5]
  case stop =>
    rintro D j pre W hD hpre ⟨rfl, ls, code, hh, hne, hp⟩ hK
    gi_wp2
    refine ⟨by simp, .inl ⟨_, _, rfl, run_takeDeferred hK, ?_⟩⟩
    have hs2 := HoldC.own (B := w.heap.size) hw0 (fun (_ : Unit) => boxT (w.heap.size + 1) 31 #[.int .i64 code] :: boxT w.heap.size 83 #[.func (.func 36) #[] #[.pointer (some ⟨bd, 0, none⟩)]] :: (gs ++ ls)) () _ _ _ hh (grownBy_putObj' _ D (.deferred none)) (fun r e => by cases e; exact ⟨by simp at hD; omega, _, hK, rfl⟩)
    have hc5 : (W.putObj D (.deferred none)).cell? ⟨w.heap.size + 1, 0, none⟩ = some (.int .i64 code) := box_cell (hs2.i (t := boxT (w.heap.size + 1) 31 #[.int .i64 code]) (by simp)) (i := 0) rfl
    refine ⟨.int .i64 code, ?_, ls, hs2.drop.drop, .inr ⟨pre, code, hpre, hne, rfl, hp⟩⟩
    simp [results, Tryz.f33, go_sem, hc5]
end Go.Proofs.YtiblpdjehknbcaaGreat.Stk
/- What Point and Total tell of a stack that was fed. Printed by wip/gen/stk5.py. -/
namespace Go.Proofs.YtiblpdjehknbcaaGreat.Stk
open Go Go.RowKit Lw Grd Lin Con Shp Sk Exa Lev
set_option linter.unusedVariables false
set_option linter.unusedSimpArgs false
theorem st_ex {c : Cfg} {us : Ups} {n : Nat} {i : Int} (hx : exactB c n = true) (i0 : 0 ≤ i) (hi : i < keys c n) : lsPtV c n (stOf c us n) i = hasK i (upN us n) := by
  have hk : ((keys c n).toNat : Int) = keys c n := Int.toNat_of_nonneg (by omega)
  unfold stOf
  rw [if_pos hx]
  show Exa.ptV (sums (keys c n).toNat (upN us n)) i = _
  unfold Exa.ptV
  rw [if_neg (by rw [sums_len, hk]; omega)]
  unfold num
  rw [sums_get (show i.toNat < (keys c n).toNat by omega)]
  show hasK ((i.toNat : Nat) : Int) (upN us n) = _
  rw [Int.toNat_of_nonneg i0]
theorem st_pc {c : Cfg} {us : Ups} {n : Nat} {i : Int} (i0 : 0 ≤ i) (hi : i < keys c n) : lsPtC c n (stOf c us n) i = 0 := by
  have hk : ((keys c n).toNat : Int) = keys c n := Int.toNat_of_nonneg (by omega)
  unfold stOf
  split
  · show Exa.ptC (sums (keys c n).toNat (upN us n)) i = 0
    unfold Exa.ptC
    rw [if_neg (by rw [sums_len, hk]; omega)]
  · show ptCode c n i = 0
    exact if_neg (by omega)
theorem sp_at {c : Cfg} (hr : IsRight c) (us : Ups) {n : Nat} (hn : (n : Int) ≤ c.bt) (i : Int) : spV c (stsOf c us) n i = lsPtV c n (stOf c us n) i ∧ spC c (stsOf c us) n i = lsPtC c n (stOf c us n) i := by
  have hb := hr.1
  have h1 := stsOf_get (c := c) (us := us) (n := n) (by omega)
  unfold spV spC
  rw [if_pos (by omega), if_pos (by omega), Int.toNat_natCast, h1]
  exact ⟨rfl, rfl⟩
theorem tot_at {c : Cfg} (hr : IsRight c) (us : Ups) : spV c (stsOf c us) c.bt 0 = hasK 0 (upN us c.bt.toNat) := by
  have hb := hr.1
  have e : ((c.bt.toNat : Nat) : Int) = c.bt := by omega
  have h1 := (sp_at hr us (n := c.bt.toNat) (by omega) 0).1
  rw [e] at h1
  rw [h1]
  have h2 := st_ex (c := c) (us := us) (n := c.bt.toNat) (i := 0) (by rw [e]; exact Exa.exact_top hr) (by omega) (by rw [e, keys_top hr]; omega)
  rw [e] at h2
  exact h2
end Go.Proofs.YtiblpdjehknbcaaGreat.Stk
/- The document's Plain: has no key less than 0? What no prefix is told less than. Printed by wip/gen/stk7.py. -/
namespace Go.Proofs.YtiblpdjehknbcaaGreat.Stk
open Go Go.RowKit Lw Grd Lin Con Shp Sk Exa Lev
set_option linter.unusedVariables false
set_option linter.unusedSimpArgs false
theorem upN_zero (us : Ups) : upN us 0 = us := by
  unfold upN
  have h : ∀ u : Int × Int, (upK u.1 0, u.2) = u := fun u => by
    unfold upK
    rw [Nat.pow_zero]
    show (u.1 / (1 : Int), u.2) = u
    rw [Int.ediv_one]
  rw [List.map_congr_left (g := id) (fun u _ => h u), List.map_id]
/-- Has no key less than 0? -/
def plainB (us : Ups) : Bool := us.all (fun u => decide (0 ≤ hasK u.1 us))
theorem plain_of {us : Ups} (h : plainB us = true) : ∀ u ∈ us, 0 ≤ hasK u.1 us := fun u hu => of_decide_eq_true (List.all_eq_true.1 h u hu)
theorem has_up_filter (q i : Int) (n : Nat) : ∀ us : Ups, hasK i (upN us n) = (if upK q n = i then hasK q us else 0) + hasK i (upN (us.filter (fun u => u.1 ≠ q)) n)
  | [] => by simp [hasK, upN]
  | u :: us => by
    have ih := has_up_filter q i n us
    have e : hasK i (upN (u :: us) n) = (if upK u.1 n = i then u.2 else 0) + hasK i (upN us n) := rfl
    by_cases h : u.1 = q
    · rw [List.filter_cons_of_neg (by simp [h]), e, ih, h]
      simp only [hasK]
      rw [if_pos h]
      split <;> omega
    · rw [List.filter_cons_of_pos (by simp [h]), e, ih]
      have e2 : hasK i (upN (u :: us.filter (fun u => u.1 ≠ q)) n) = (if upK u.1 n = i then u.2 else 0) + hasK i (upN (us.filter (fun u => u.1 ≠ q)) n) := rfl
      rw [e2]
      simp only [hasK]
      rw [if_neg h]
      split <;> split <;> omega
theorem has_up_nn (n : Nat) (i : Int) : ∀ (m : Nat) (us : Ups), us.length ≤ m → (∀ u ∈ us, 0 ≤ hasK u.1 us) → 0 ≤ hasK i (upN us n)
  | _, [], _, _ => by simp [hasK, upN]
  | 0, u :: us, h, _ => by simp at h
  | m + 1, u :: us, h, hn => by
    have hlen : ((u :: us).filter (fun v => v.1 ≠ u.1)).length ≤ m := by
      rw [List.filter_cons_of_neg (by simp)]
      have := List.length_filter_le (fun v : Int × Int => decide (v.1 ≠ u.1)) us
      simp at h
      omega
    have hf : ∀ v ∈ (u :: us).filter (fun v => v.1 ≠ u.1), 0 ≤ hasK v.1 ((u :: us).filter (fun v => v.1 ≠ u.1)) := by
      intro v hv
      obtain ⟨h1, h2⟩ := List.mem_filter.1 hv
      rw [hasK_filter v.1 u.1 (by simpa using h2)]
      exact hn v h1
    have ih := has_up_nn n i m _ hlen hf
    have h3 := hn u (by simp)
    rw [has_up_filter u.1 i n (u :: us)]
    split <;> omega
/-- No prefix is told less than it has. -/
theorem over_le {c : Cfg} (hr : IsRight c) (hm : c.md ≠ 3) {us : Ups} (h : UpsIn c 0 us) (hp : plainB us = true) {n : Nat} (hn : (n : Int) ≤ c.bt) {i : Int} (i0 : 0 ≤ i) (hi : i < keys c n) : hasK i (upN us n) ≤ lsPtV c n (stOf c us n) i := by
  have hu := upN_in hr h hn
  by_cases hx : exactB c n = true
  · rw [st_ex hx i0 hi]
    exact Int.le_refl _
  · unfold stOf
    rw [if_neg hx]
    show hasK i (upN us n) ≤ ptVal c n (cells c n (upN us n)) i
    rw [pt_least hi hm]
    have hme := cols_meet i0 hi
    by_cases h2 : c.md = 2
    · rw [cells_con h2]
      have r1 := rose_all (rose_zero (rws c) (wds c)) (opsU_ok hu.1) (plus_of hu h2)
      have h3 := r1.lea_own hme
      rw [List.nil_append] at h3
      exact Int.le_trans (hasK_own hu.1 (hu.2 h2)) h3.1
    · rw [cells_lin h2]
      have hsz := chAll_sz (sz_zeros (rws c) (wds c)) (opsU_ok hu.1)
      obtain ⟨j, hj⟩ := List.getElem?_of_mem (lea_mem hsz hme).1
      have hjl := (List.getElem?_eq_some_iff.1 hj).1
      have hjr : j < rws c := by
        unfold named at hjl
        rw [List.length_zipWith, hsz.1] at hjl
        omega
      rw [named_key hu.1 i0 hi hjr] at hj
      injection hj with hj
      rw [← hj]
      have h5 := othK_nn c n i j _ (upN us n) (Nat.le_refl _) (fun u hu2 => has_up_nn n u.1 _ us (Nat.le_refl _) (plain_of hp))
      omega
theorem fld_key (U D : Int) (w : World) : (Instr.field 38 (.agg #[.int .u64 U, .int .i64 D]) 0).run Tryz.prog w = .ok (.int .u64 U) w := by kernel_rfl
theorem rhas_0 (c : Cfg) (A : Option Addr) (n0 k0 : Nat) (qs : Ups) (i : Int) (w : World) (hco : c.Ok) (hkeys : 1 ≤ keys c 0) (hq : UpdV w A n0 k0 qs) (i0 : 0 ≤ i) (i1 : i ≤ 18446744073709551615) :
    Calls Tryz.prog 22 #[.agg #[.int .i64 c.bt, .int .i64 c.rw, .int .i64 c.wd, .int .i64 c.md, .int .u64 c.sd], .slice A n0 k0, .agg #[.int .i64 0, .int .u64 i]] w fun e w' => e = .returned (.int .i64 (hasK i (upsR c 0 qs 0 60))) ∧ Below w.heap.size w w' := by
  have h := rhas_any c A n0 k0 qs 0 i w hco hkeys hq (by omega) i0 i1
  rw [upN_zero] at h
  exact h
set_option maxRecDepth 100000 in
set_option maxHeartbeats 4000000 in
theorem rplain_any (c : Cfg) (A : Option Addr) (n0 k0 : Nat) (qs : Ups) (w : World) (hco : c.Ok) (hkeys : 1 ≤ keys c 0) (hq : UpdV w A n0 k0 qs) :
    Calls Tryz.prog 23 #[.agg #[.int .i64 c.bt, .int .i64 c.rw, .int .i64 c.wd, .int .i64 c.md, .int .u64 c.sd], .slice A n0 k0] w fun e w' => e = .returned (.bool (plainB (upsR c 0 qs 0 60))) ∧ Below w.heap.size w w' := by
  have HQ := Lib.hid hq
  have HL := Lib.hid hq.len
  have hnc := hq.nc
  have hcm := hq.cm
  unfold maxLen at hcm
  have HKY := Lib.hid hkeys
  have hkk := keys_bd c 0
  have CC0 := Lib.hid (fun w k d h0 h1 h2 h3 => rcut15_any c k d w hco h0 h1 h2 h3 hkeys)
  have CH0 := Lib.hid (fun i w hq i0 i1 => rhas_0 c A n0 k0 qs i w hco hkeys hq i0 i1)
  obtain ⟨us, hus⟩ : ∃ us, upsR c 0 qs 0 60 = us := ⟨_, rfl⟩
  rw [hus] at CH0
  have HUS := Lib.hid hus
  rw [hus]
  have HBX : Hid (Have w (w.alloc (.cells #[.int .i64 c.bt, .int .i64 c.rw, .int .i64 c.wd, .int .i64 c.md, .int .u64 c.sd] 24)) [boxT w.heap.size 24 #[.int .i64 c.bt, .int .i64 c.rw, .int .i64 c.wd, .int .i64 c.md, .int .u64 c.sd]]) := Lib.hid (box_new w _ _)
  clear hq hkeys hco hus
  go_enter Tryz.func23, Tryz.ntmps23
  go_wp2
  go_loopw [5] (fun iv wr => ∃ (j : Nat), j ≤ n0 ∧ j ≤ 60 ∧ iv = .int .i64 j ∧ (∀ u ∈ upsR c 0 qs 0 j, 0 ≤ hasK u.1 us) ∧ Have w wr [boxT w.heap.size 24 #[.int .i64 c.bt, .int .i64 c.rw, .int .i64 c.wd, .int .i64 c.md, .int .u64 c.sd]]) (fun iv _ => n0 - (intOf iv).toNat)
  case atStart => exact ⟨0, Nat.zero_le _, Nat.zero_le _, rfl, by rw [upsR_zero]; simp, HBX.out⟩
  case round =>
    obtain ⟨j, hj, hj6, rfl, hall, hv⟩ := hrel
    have HVr := Lib.hid hv
    have HALL := Lib.hid hall
    have hwb := hv.below
    clear hv hall
    by_cases hlt : j < n0 ∧ j < 60
    · obtain ⟨hj1, hj2⟩ := hlt
      obtain ⟨q, hq1⟩ : ∃ q, qs[j]? = some q := ⟨_, List.getElem?_eq_getElem (by rw [HL.out]; omega)⟩
      have hnx := upsR_next (c := c) (l := 0) hq1 (Nat.zero_le j)
      have hcu := cutU_ok HKY.out q
      have hmem : cutU c 0 q ∈ us := by
        rw [← HUS.out]
        unfold upsR
        refine List.mem_map.2 ⟨q, ?_, rfl⟩
        rw [List.drop_zero]
        exact List.mem_of_getElem? (i := j) (by rw [List.getElem?_take, if_pos (by omega)]; exact hq1)
      obtain ⟨a, g, o, rfl, hadd, d1w, d2w, kb, db⟩ := HQ.out.at hq1
      obtain ⟨qk, qd⟩ := q
      simp only at d1w d2w kb db
      have d1 := cell_up d1w hwb
      have d2 := cell_up d2w hwb
      obtain ⟨e1, e2, e3, e4, e5⟩ := box5 HVr.out.i0
      have CC := Lib.hid (fun w => CC0.out w qk qd kb.1 kb.2 db.1 db.2)
      have HCU := Lib.hid hcu
      have HMEM := Lib.hid hmem
      have HNX := Lib.hid hnx
      obtain ⟨U, hU⟩ : ∃ U, (cutU c 0 (qk, qd)).1 = U := ⟨_, rfl⟩
      obtain ⟨D, hD⟩ : ∃ D, (cutU c 0 (qk, qd)).2 = D := ⟨_, rfl⟩
      have hT : cutU c 0 (qk, qd) = (U, D) := by rw [← hU, ← hD]
      rw [hU, hD] at CC
      rw [hT] at HCU HMEM HNX
      have CH := Lib.hid (fun w hq => CH0.out U w hq HCU.out.1 (by have := HCU.out.2.1; simp only at this; omega))
      obtain ⟨Y, hY⟩ : ∃ Y, hasK U us = Y := ⟨_, rfl⟩
      rw [hY] at CH
      have HY := Lib.hid hY
      clear hq1 hnx hcu hmem hT hU hD hY d1w d2w hkk
      have hfd := fld_key U D
      by_cases hneg : Y < 0
      · have dn : decide (Y < 0) = true := decide_eq_true hneg
        have HF : Hid (plainB us = false) := Lib.hid (by
          unfold plainB
          refine List.all_eq_false.2 ⟨(U, D), HMEM.out, ?_⟩
          show ¬ decide (0 ≤ hasK U us) = true
          rw [HY.out]
          exact fun h => by have := of_decide_eq_true h; omega)
        go_upto_region 4 with fail
        go_region_held3 (fun w' => w'.cell? ⟨w.heap.size, 0, none⟩ = some (.int .i64 c.bt) ∧ w'.cell? ⟨w.heap.size, 1, none⟩ = some (.int .i64 c.rw) ∧ w'.cell? ⟨w.heap.size, 2, none⟩ = some (.int .i64 c.wd) ∧ w'.cell? ⟨w.heap.size, 3, none⟩ = some (.int .i64 c.md) ∧ w'.cell? ⟨w.heap.size, 4, none⟩ = some (.int .u64 c.sd) ∧ w'.cell? ⟨g, o, none⟩ = some (.int .u64 qk) ∧ w'.cell? ⟨g, o + 1, none⟩ = some (.int .i64 qd)) (first | (refine ⟨?_, ?_, ?_, ?_, ?_, ?_, ?_⟩ <;> (first | (with_reducible assumption) | (with_reducible refine cell_up e1 ?_) | (with_reducible refine cell_up e2 ?_) | (with_reducible refine cell_up e3 ?_) | (with_reducible refine cell_up e4 ?_) | (with_reducible refine cell_up e5 ?_) | (with_reducible refine cell_up d1 ?_) | (with_reducible refine cell_up d2 ?_)) <;> (repeat' (first | (with_reducible exact Below.refl _ _) | (with_reducible assumption) | (with_reducible refine below_over ?_ _ _) | (with_reducible refine Lw.below_alloc ?_ _) | (with_reducible refine Below.drew ?_) | (with_reducible refine below_drewN ?_ _) | (with_reducible refine Below.setCell ?_ ?_ _) | go_size)))) (first
          | (go_at_call 22; (with_reducible refine (CH.out _ (HQ.out.up (HVr.out.up (by repeat' (first | (with_reducible exact Below.refl _ _) | (with_reducible assumption) | (with_reducible refine below_over ?_ _ _) | (with_reducible refine Lw.below_alloc ?_ _) | (with_reducible refine Below.drew ?_) | (with_reducible refine below_drewN ?_ _) | (with_reducible refine Below.setCell ?_ ?_ _) | go_size))).below)).mono ?_); rintro e w'' ⟨rfl, hb⟩; obtain ⟨bs2, dd2, rfl⟩ := below_grow hb; clear hb)
          | (go_at_call 27; (with_reducible refine (CC.out _).mono ?_); rintro e w' ⟨rfl, hb⟩; obtain ⟨bs, dd, rfl⟩ := below_grow hb; clear hb))
        all_goals go_wp2
        all_goals go_ret
        all_goals exact ⟨ret_bs HF.out.symm, (HVr.out.up (by repeat' (first | (with_reducible exact Below.refl _ _) | (with_reducible assumption) | (with_reducible refine below_over ?_ _ _) | (with_reducible refine Lw.below_alloc ?_ _) | (with_reducible refine Below.drew ?_) | (with_reducible refine below_drewN ?_ _) | (with_reducible refine Below.setCell ?_ ?_ _) | go_size))).below⟩
      · have dn : decide (Y < 0) = false := decide_eq_false hneg
        have HN : Hid (∀ u ∈ upsR c 0 qs 0 (j + 1), 0 ≤ hasK u.1 us) := Lib.hid (fun u hu => by
          rw [HNX.out] at hu
          rcases List.mem_append.1 hu with h | h
          · exact HALL.out u h
          · rw [List.mem_singleton.1 h]
            show 0 ≤ hasK U us
            rw [HY.out]
            omega)
        go_upto_region 4 with fail
        go_region_held3 (fun w' => w'.cell? ⟨w.heap.size, 0, none⟩ = some (.int .i64 c.bt) ∧ w'.cell? ⟨w.heap.size, 1, none⟩ = some (.int .i64 c.rw) ∧ w'.cell? ⟨w.heap.size, 2, none⟩ = some (.int .i64 c.wd) ∧ w'.cell? ⟨w.heap.size, 3, none⟩ = some (.int .i64 c.md) ∧ w'.cell? ⟨w.heap.size, 4, none⟩ = some (.int .u64 c.sd) ∧ w'.cell? ⟨g, o, none⟩ = some (.int .u64 qk) ∧ w'.cell? ⟨g, o + 1, none⟩ = some (.int .i64 qd)) (first | (refine ⟨?_, ?_, ?_, ?_, ?_, ?_, ?_⟩ <;> (first | (with_reducible assumption) | (with_reducible refine cell_up e1 ?_) | (with_reducible refine cell_up e2 ?_) | (with_reducible refine cell_up e3 ?_) | (with_reducible refine cell_up e4 ?_) | (with_reducible refine cell_up e5 ?_) | (with_reducible refine cell_up d1 ?_) | (with_reducible refine cell_up d2 ?_)) <;> (repeat' (first | (with_reducible exact Below.refl _ _) | (with_reducible assumption) | (with_reducible refine below_over ?_ _ _) | (with_reducible refine Lw.below_alloc ?_ _) | (with_reducible refine Below.drew ?_) | (with_reducible refine below_drewN ?_ _) | (with_reducible refine Below.setCell ?_ ?_ _) | go_size)))) (first
          | (go_at_call 22; (with_reducible refine (CH.out _ (HQ.out.up (HVr.out.up (by repeat' (first | (with_reducible exact Below.refl _ _) | (with_reducible assumption) | (with_reducible refine below_over ?_ _ _) | (with_reducible refine Lw.below_alloc ?_ _) | (with_reducible refine Below.drew ?_) | (with_reducible refine below_drewN ?_ _) | (with_reducible refine Below.setCell ?_ ?_ _) | go_size))).below)).mono ?_); rintro e w'' ⟨rfl, hb⟩; obtain ⟨bs2, dd2, rfl⟩ := below_grow hb; clear hb)
          | (go_at_call 27; (with_reducible refine (CC.out _).mono ?_); rintro e w' ⟨rfl, hb⟩; obtain ⟨bs, dd, rfl⟩ := below_grow hb; clear hb))
        all_goals go_wp2
        all_goals go_roundw
        all_goals first
          | exact ⟨j + 1, by omega, by omega, by go_num, HN.out, HVr.out.up (by repeat' (first | (with_reducible exact Below.refl _ _) | (with_reducible assumption) | (with_reducible refine below_over ?_ _ _) | (with_reducible refine Lw.below_alloc ?_ _) | (with_reducible refine Below.drew ?_) | (with_reducible refine below_drewN ?_ _) | (with_reducible refine Below.setCell ?_ ?_ _) | go_size))⟩
          | (simp [intOf]; omega)
    · have hend : upsR c 0 qs 0 j = us := by rw [← HUS.out]; exact upsR_end hj6 (by rw [HL.out]; omega)
      have hall := HALL.out
      rw [hend] at hall
      have HT : Hid (plainB us = true) := Lib.hid (List.all_eq_true.2 (fun u hu => decide_eq_true (hall u hu)))
      have hcases : ((j : Int) < n0 ∧ ¬ (j : Int) < 60) ∨ ¬ (j : Int) < n0 := by omega
      clear hend hall hlt
      rcases hcases with ⟨hc1, hc2⟩ | hc1
      all_goals go_wp2
      all_goals go_ret
      all_goals exact ⟨ret_bs HT.out.symm, (HVr.out.up (by repeat' (first | (with_reducible exact Below.refl _ _) | (with_reducible assumption) | (with_reducible refine below_over ?_ _ _) | (with_reducible refine Lw.below_alloc ?_ _) | (with_reducible refine Below.drew ?_) | (with_reducible refine below_drewN ?_ _) | (with_reducible refine Below.setCell ?_ ?_ _) | go_size))).below⟩
end Go.Proofs.YtiblpdjehknbcaaGreat.Stk
/- What spans of stacks that were fed have, in numbers. For stages from 16 on. -/
namespace Go.Proofs.YtiblpdjehknbcaaGreat.Spn
open Go Go.RowKit Lw Grd Lin Con Shp Sk Exa Lev Stk Pcs
set_option linter.unusedVariables false
theorem cel_within {b : Int} {L : List (List Int)} (hb : 0 ≤ b) (h : Within b L) (r v : Nat) : -b ≤ cel L r v ∧ cel L r v ≤ b := by
  unfold cel
  cases h1 : L[r]? with
  | none => simp; omega
  | some x =>
    simp only [Option.getD_some]
    cases h2 : x[v]? with
    | none => simp; omega
    | some y => exact h x (List.mem_of_getElem? h1) y (List.mem_of_getElem? h2)
theorem cells_within {c : Cfg} {n : Int} {us : Ups} (h : UpsIn c n us) (hl : us.length ≤ 60) : Within 65970697666560 (cells c n us) := by
  by_cases h2 : c.md = 2
  · rw [cells_con h2]
    exact (rose_dims (opsU_ok h.1) (plus_of h h2) (by rw [opsU_len]; exact hl)).2
  · rw [cells_lin h2]
    exact within_mono (chAll_within (c := 1099511627776) (by omega) (b := 0) (Int.le_refl _) (within_zeros (rws c) (wds c)) (opsU_ok h.1)) (c := 65970697666560) (by rw [opsU_len]; omega)
theorem named_within {b : Int} (hb : 0 ≤ b) : ∀ {L : List (List Int)} {cs : List Int}, Within b L → ∀ v ∈ named L cs, -b ≤ v ∧ v ≤ b
  | [], _, _ => fun v hv => by simp [named] at hv
  | _ :: _, [], _ => fun v hv => by simp [named] at hv
  | r :: L, k :: cs, h => fun v hv => by
    rcases List.mem_cons.1 (show v ∈ (r[k.toNat]?.getD 0) :: named L cs from hv) with e | e
    · subst e
      cases h1 : r[k.toNat]? with
      | none => simp; omega
      | some y => exact h r (by simp) y (List.mem_of_getElem? h1)
    · exact named_within hb (fun x hx => h x (List.mem_cons_of_mem _ hx)) v e
theorem pt_bd {c : Cfg} (hr : IsRight c) {us : Ups} (h : UpsIn c 0 us) (hl : us.length ≤ 60) {n : Nat} (hn : (n : Int) ≤ c.bt) {i : Int} (i0 : 0 ≤ i) (hi : i < keys c n) : -65970697666560 ≤ lsPtV c n (stOf c us n) i ∧ lsPtV c n (stOf c us n) i ≤ 65970697666560 := by
  have hu := upN_in hr h hn
  by_cases hx : exactB c n = true
  · rw [st_ex hx i0 hi]
    have h2 := hasK_bd (k := i) (b := 1099511627776) (by omega) (us := upN us n) (fun v hv => ⟨(hu.1 v hv).2.2.1, (hu.1 v hv).2.2.2⟩)
    rw [upN_len] at h2
    omega
  · unfold stOf
    rw [if_neg hx]
    show _ ≤ ptVal c n (cells c n (upN us n)) i ∧ ptVal c n (cells c n (upN us n)) i ≤ _
    have hw := cells_within hu (by rw [upN_len]; exact hl)
    by_cases hm : c.md = 3
    · rw [pt_middle hi hm]
      exact Ord.kv_in _ _ _ _ (by omega) (by omega) (named_within (by omega) hw)
    rw [pt_least hi hm]
    obtain ⟨r, v, -, -, -, e⟩ := lea_is (cells_sz hu) (cols_meet i0 hi)
    rw [e]
    exact cel_within (by omega) hw r v
/-- A piece of a span of keys is one of the level's. -/
theorem cov_in {c : Cfg} (hr : IsRight c) {lo hi : Int} (h0 : 0 ≤ lo) (h1 : lo ≤ hi) (h2 : hi < keys c 0) {l : List (Nat × Nat)} (h : Cov c.bt.toNat (hi.toNat + 1) lo.toNat l) {p : Nat × Nat} (hp : p ∈ l) : (p.1 : Int) ≤ c.bt ∧ ((p.2 : Nat) : Int) < keys c p.1 := by
  have hb := hr.1
  obtain ⟨i, hi2⟩ := List.getElem?_of_mem hp
  obtain ⟨a1, a2, a3⟩ := h.at i p hi2
  have e0 : keys c 0 = 2 ^ (c.bt - 0).toNat := keys_yes hr (by omega) (by omega)
  have e1 : keys c p.1 = 2 ^ (c.bt - p.1).toNat := keys_yes hr (by omega) (by omega)
  refine ⟨by omega, ?_⟩
  rw [e1]
  have e2 : (c.bt - 0).toNat = c.bt.toNat := by omega
  have e3 : (c.bt - p.1).toNat = c.bt.toNat - p.1 := by omega
  rw [e2] at e0
  rw [e3]
  have h5 : ((2 ^ c.bt.toNat : Nat) : Int) = 2 ^ c.bt.toNat := by simp
  have h6 : ((2 ^ (c.bt.toNat - p.1) : Nat) : Int) = 2 ^ (c.bt.toNat - p.1) := by simp
  have h7 : hi.toNat + 1 ≤ 2 ^ c.bt.toNat := by omega
  have h8 : 2 ^ c.bt.toNat = 2 ^ (c.bt.toNat - p.1) * 2 ^ p.1 := by rw [← Nat.pow_add]; congr 1; omega
  have h9 : (p.2 + 1) * 2 ^ p.1 ≤ 2 ^ (c.bt.toNat - p.1) * 2 ^ p.1 := by rw [Nat.succ_mul]; omega
  have h10 := Nat.le_of_mul_le_mul_right h9 (Nat.two_pow_pos p.1)
  omega
/-- What a span of a stack that was fed is told to have. -/
theorem rg_fed {c : Cfg} (hr : IsRight c) {us : Ups} (h : UpsIn c 0 us) (hl : us.length ≤ 60) {lo hi : Int} (h0 : 0 ≤ lo) (h1 : lo ≤ hi) (h2 : hi < keys c 0) {l : List (Nat × Nat)} (hc : Cov c.bt.toNat (hi.toNat + 1) lo.toNat l) :
    ptC2 c lo hi = 0 ∧ parts c (fun L i => spV c (stsOf c us) (L : Int) i) lo hi = l.map (fun p => lsPtV c p.1 (stOf c us p.1) ((p.2 : Nat) : Int)) ∧ rgC c (fun L i => spV c (stsOf c us) (L : Int) i) lo hi = 0 ∧ rgV c (fun L i => spV c (stsOf c us) (L : Int) i) lo hi = (l.map (fun p => lsPtV c p.1 (stOf c us p.1) ((p.2 : Nat) : Int))).sum := by
  have e1 : ptC2 c lo hi = 0 := by unfold ptC2; rw [if_neg (by omega), if_neg (by omega)]
  have e2 : parts c (fun L i => spV c (stsOf c us) (L : Int) i) lo hi = l.map (fun p => lsPtV c p.1 (stOf c us p.1) ((p.2 : Nat) : Int)) := by
    unfold parts
    rw [covL_eq hc]
    exact List.map_congr_left (fun p hp => (sp_at hr us (cov_in hr h0 h1 h2 hc hp).1 _).1)
  have hB := hr.1
  have hB2 := hr.2.1
  have e0 : keys c 0 = 2 ^ (c.bt - 0).toNat := keys_yes hr (by omega) (by omega)
  have e9 : (c.bt - 0).toNat = c.bt.toNat := by omega
  rw [e9] at e0
  have h5 : ((2 ^ c.bt.toNat : Nat) : Int) = 2 ^ c.bt.toNat := by simp
  have hlen := hc.len (by omega) (by omega)
  have hbd := sum_bd (f := fun p : Nat × Nat => lsPtV c p.1 (stOf c us p.1) ((p.2 : Nat) : Int)) (b := 65970697666560) (l := l) (fun p hp => by
    have h3 := cov_in hr h0 h1 h2 hc hp
    exact pt_bd hr h hl h3.1 (by omega) h3.2)
  have hfit : Wid.fit64 (l.map (fun p => lsPtV c p.1 (stOf c us p.1) ((p.2 : Nat) : Int))).sum = true := by
    exact (Wid.fit64_yes (by omega) (by omega)).1
  have e3 : rgC c (fun L i => spV c (stsOf c us) (L : Int) i) lo hi = 0 := by unfold rgC; rw [if_pos e1, e2, if_pos hfit]
  exact ⟨e1, e2, e3, by unfold rgV; rw [if_pos e3, e2]⟩
theorem cov_all (B : Nat) : Cov B (2 ^ B) 0 [(B, 0)] := by
  have h : GL B 0 (2 ^ B) B := ⟨Nat.le_refl _, Nat.dvd_zero _, by omega, .inl rfl⟩
  have h2 := Cov.cons h (by rw [Nat.zero_add]; exact Cov.nil)
  rw [Nat.zero_div] at h2
  exact h2
theorem cov_one (B k : Nat) : Cov B (k + 1) k [(0, k)] := by
  have h : GL B k (k + 1) 0 := ⟨Nat.zero_le _, by simp, by simp, .inr (.inr (by simp))⟩
  have h2 := Cov.cons h (by rw [Nat.pow_zero]; exact Cov.nil)
  rw [Nat.pow_zero, Nat.div_one] at h2
  exact h2
end Go.Proofs.YtiblpdjehknbcaaGreat.Spn
/- The way to a rank's key in a stack that was fed. For stages from 17 on. By hand. -/
namespace Go.Proofs.YtiblpdjehknbcaaGreat.Qnt
open Go Go.RowKit Lw Grd Lin Con Shp Sk Exa Lev Stk Pcs Spn
set_option linter.unusedVariables false
/-- What a stack that was fed tells of a piece. -/
abbrev ptU (c : Cfg) (us : Ups) : Nat → Int → Int := fun L i => spV c (stsOf c us) (L : Int) i
theorem bt_nat {c : Cfg} (hr : IsRight c) : ((c.bt.toNat : Nat) : Int) = c.bt := by have := hr.1; omega
theorem piece_key {c : Cfg} (hr : IsRight c) {L i : Nat} (hL : L ≤ c.bt.toNat) (hi : i < 2 ^ (c.bt.toNat - L)) : ((i : Nat) : Int) < keys c L := by
  have hb := hr.1
  have e1 : keys c L = 2 ^ (c.bt - L).toNat := keys_yes hr (by omega) (by omega)
  have e2 : (c.bt - L).toNat = c.bt.toNat - L := by omega
  rw [e1, e2]
  have h5 : ((2 ^ (c.bt.toNat - L) : Nat) : Int) = 2 ^ (c.bt.toNat - L) := by simp
  omega
theorem ptU_at {c : Cfg} (hr : IsRight c) (us : Ups) {L : Nat} (hL : L ≤ c.bt.toNat) (i : Int) : ptU c us L i = lsPtV c L (stOf c us L) i := (sp_at hr us (n := L) (by have := hr.1; omega) i).1
theorem ptU_bd {c : Cfg} (hr : IsRight c) {us : Ups} (h : UpsIn c 0 us) (hl : us.length ≤ 60) {L i : Nat} (hL : L ≤ c.bt.toNat) (hi : i < 2 ^ (c.bt.toNat - L)) : -65970697666560 ≤ ptU c us L ((i : Nat) : Int) ∧ ptU c us L ((i : Nat) : Int) ≤ 65970697666560 := by
  rw [ptU_at hr us hL]
  exact pt_bd hr h hl (n := L) (by have := hr.1; omega) (by omega) (piece_key hr hL hi)
theorem ptU_over {c : Cfg} (hr : IsRight c) (hm : c.md ≠ 3) {us : Ups} (h : UpsIn c 0 us) (hp : plainB us = true) {L i : Nat} (hL : L ≤ c.bt.toNat) (hi : i < 2 ^ (c.bt.toNat - L)) : hasK ((i : Nat) : Int) (upN us L) ≤ ptU c us L ((i : Nat) : Int) := by
  rw [ptU_at hr us hL]
  exact over_le hr hm h hp (n := L) (by have := hr.1; omega) (by omega) (piece_key hr hL hi)
theorem ptU_top {c : Cfg} (hr : IsRight c) (us : Ups) : ptU c us c.bt.toNat 0 = hasK 0 (upN us c.bt.toNat) := by
  have h := tot_at hr us
  rw [← bt_nat hr] at h
  exact h
theorem has_all {c : Cfg} (hr : IsRight c) (us : Ups) : spV c (stsOf c us) c.bt 0 = ptU c us c.bt.toNat 0 := by
  show _ = spV c (stsOf c us) ((c.bt.toNat : Nat) : Int) 0
  rw [bt_nat hr]
/-- Each rank that there is leads to a key. -/
theorem way_fed {c : Cfg} (hr : IsRight c) {us : Ups} (h : UpsIn c 0 us) (hl : us.length ≤ 60) {k : Int} (k1 : 1 ≤ k) (k2 : k ≤ ptU c us c.bt.toNat 0) : ∃ l, wayQ (ptU c us) c.bt.toNat 0 k = some l ∧ Path c.bt.toNat 0 l ∧ ((keyQ l : Nat) : Int) < keys c 0 := by
  have hb := hr.1
  have hb2 := hr.2.1
  have htop := ptU_bd hr h hl (L := c.bt.toNat) (i := 0) (Nat.le_refl _) (by rw [Nat.sub_self]; decide)
  have htop2 : ptU c us c.bt.toNat 0 ≤ 65970697666560 := htop.2
  obtain ⟨l, hl2⟩ := way_fits (pt := ptU c us) (B := c.bt.toNat) (M := 65970697666560) (by omega) (fun L i hL hi => (ptU_bd hr h hl hL hi).1) (L := c.bt.toNat) (i := 0) (k := k) (Nat.le_refl _) (Nat.two_pow_pos _) k1 (by omega)
  refine ⟨l, hl2, wayQ_path hl2, ?_⟩
  have h3 := (wayQ_path hl2).in
  rw [Nat.zero_add, Nat.one_mul] at h3
  exact piece_key hr (L := 0) (Nat.zero_le _) (by rw [Nat.sub_zero]; exact h3.2)
theorem way_plain {c : Cfg} (hr : IsRight c) (hm : c.md ≠ 3) {us : Ups} (h : UpsIn c 0 us) (hp : plainB us = true) {k : Int} {l : List (Nat × Nat)} (hw : wayQ (ptU c us) c.bt.toNat 0 k = some l) (k1 : 1 ≤ k) (k2 : k ≤ hasK 0 (upN us c.bt.toNat)) :
    bt 0 ((keyQ l : Nat) : Int) us - hasK ((keyQ l : Nat) : Int) us < k ∧ k ≤ bt 0 ((keyQ l : Nat) : Int) us + (l.map (ovQ (ptU c us) us)).sum ∧ 0 ≤ (l.map (ovQ (ptU c us) us)).sum := by
  have hu : ∀ u ∈ us, 0 ≤ u.1 := fun u hu => (h.1 u hu).1
  have ho : ∀ (L i : Nat), L ≤ c.bt.toNat → i < 2 ^ (c.bt.toNat - L) → hasK ((i : Nat) : Int) (upN us L) ≤ ptU c us L ((i : Nat) : Int) := fun L i hL hi => ptU_over hr hm h hp hL hi
  have h1 := way_bounds hu ho (O := 0) (Nat.le_refl _) (Nat.two_pow_pos _) hw k1 (Int.le_refl _) (by simpa using k2)
  have h2 := below_right hu 0 (keyQ l)
  rw [Nat.pow_zero, Nat.mul_one, Nat.mul_one, upN_zero] at h2
  have h3 : bt 0 ((keyQ l : Nat) : Int) us = btw 0 (keyQ l + 1) us := by
    have h4 := bt_btw (lo := 0) (hi := ((keyQ l : Nat) : Int)) (Int.le_refl _) (by omega) us
    simpa using h4
  rw [Nat.zero_mul, btw_none] at h1
  exact ⟨by omega, by omega, way_over ho (wayQ_path hw)⟩
/-- Where all levels are exact, the key is the first one up to which all have the rank. -/
theorem way_exact {c : Cfg} (hr : IsRight c) {us : Ups} (h : UpsIn c 0 us) (hx : ∀ n : Nat, (n : Int) ≤ c.bt → exactB c n = true) (hp : plainB us = true) {k : Int} {l : List (Nat × Nat)} (hw : wayQ (ptU c us) c.bt.toNat 0 k = some l) (k1 : 1 ≤ k) (k2 : k ≤ hasK 0 (upN us c.bt.toNat)) :
    k ≤ bt 0 ((keyQ l : Nat) : Int) us ∧ ∀ y : Nat, y < keyQ l → bt 0 ((y : Nat) : Int) us < k := by
  have hb := hr.1
  have hu : ∀ u ∈ us, 0 ≤ u.1 := fun u hu => (h.1 u hu).1
  have he : ∀ (L i : Nat), L ≤ c.bt.toNat → i < 2 ^ (c.bt.toNat - L) → ptU c us L ((i : Nat) : Int) = hasK ((i : Nat) : Int) (upN us L) := fun L i hL hi => by
    rw [ptU_at hr us hL]
    exact st_ex (hx L (by omega)) (by omega) (piece_key hr hL hi)
  have h1 := way_bounds hu (fun L i hL hi => Int.le_of_eq (he L i hL hi).symm) (O := 0) (Nat.le_refl _) (Nat.two_pow_pos _) hw k1 (Int.le_refl _) (by simpa using k2)
  rw [Nat.zero_mul, btw_none] at h1
  have hz : (l.map (ovQ (ptU c us) us)).sum = 0 := by
    have hpath := wayQ_path hw
    have hall : ∀ p ∈ l, ovQ (ptU c us) us p = 0 := fun p hp2 => by
      obtain ⟨j, hj⟩ := List.getElem?_of_mem hp2
      obtain ⟨g1, g2, g3⟩ := hpath.at j p hj
      unfold ovQ
      by_cases h0 : p.1 = 0
      · rw [if_pos h0]
      · rw [if_neg h0]
        have e : c.bt.toNat - (p.1 - 1) = j + 1 := by omega
        rw [he (p.1 - 1) (2 * p.2) (by omega) (by rw [e, Nat.pow_succ]; omega)]
        omega
    clear h1 hw hpath
    induction l with
    | nil => rfl
    | cons p l ih =>
      rw [List.map_cons, List.sum_cons, hall p (by simp), ih (fun q hq => hall q (List.mem_cons_of_mem _ hq))]
      rfl
  have hbt : ∀ y : Nat, bt 0 ((y : Nat) : Int) us = btw 0 (y + 1) us := fun y => by
    have h4 := bt_btw (lo := 0) (hi := ((y : Nat) : Int)) (Int.le_refl _) (by omega) us
    simpa using h4
  refine ⟨by rw [hbt]; omega, fun y hy => ?_⟩
  have h5 := btw_rises (us := us) (fun i => by
    have h6 := has_up_nn 0 ((i : Nat) : Int) us.length us (Nat.le_refl _) (plain_of hp)
    rw [upN_zero] at h6
    exact h6) hu (a := y + 1) (b := keyQ l) (by omega)
  rw [hbt]
  omega
end Go.Proofs.YtiblpdjehknbcaaGreat.Qnt
/- A rank counted round. Printed by wip/gen/qnt4.py. -/
namespace Go.Proofs.YtiblpdjehknbcaaGreat.Qnt
open Go Go.RowKit Lw Grd Lin Con Shp Sk Exa Lev Stk Pcs Spn
set_option linter.unusedVariables false
set_option linter.unusedSimpArgs false
theorem take_sum17 {α : Type} (f : α → Int) (l : List α) {j : Nat} {p : α} (h : l[j]? = some p) : ((l.take (j + 1)).map f).sum = ((l.take j).map f).sum + f p := by
  obtain ⟨h1, h2⟩ := List.getElem?_eq_some_iff.1 h
  rw [List.take_succ_eq_append_getElem h1, List.map_append, List.sum_append, h2]
  simp
theorem box2q {w : World} {b : Nat} {e : TypeId} {v0 v1 : Value} (h : (boxT b e #[v0, v1]).I w) : w.cell? ⟨b, 0, none⟩ = some v0 ∧ w.cell? ⟨b, 1, none⟩ = some v1 := ⟨box_cell h rfl, box_cell h rfl⟩
theorem addr_z (a : Addr) : a.add 0 = a := by
  obtain ⟨b, o, s⟩ := a
  cases s <;> simp [Addr.add]
theorem ov_bd {c : Cfg} (hr : IsRight c) {us : Ups} (h : UpsIn c 0 us) (hl : us.length ≤ 60) {l : List (Nat × Nat)} (hp : Path c.bt.toNat 0 l) {p : Nat × Nat} (hm : p ∈ l) : -131941395333120 ≤ ovQ (ptU c us) us p ∧ ovQ (ptU c us) us p ≤ 131941395333120 := by
  obtain ⟨j, hj⟩ := List.getElem?_of_mem hm
  obtain ⟨g1, g2, g3⟩ := hp.at j p hj
  have hb := hr.1
  unfold ovQ
  by_cases h0 : p.1 = 0
  · rw [if_pos h0]
    omega
  · rw [if_neg h0]
    have e : c.bt.toNat - (p.1 - 1) = j + 1 := by omega
    have h3 := ptU_bd hr h hl (L := p.1 - 1) (i := 2 * p.2) (by omega) (by rw [e, Nat.pow_succ]; omega)
    have h4 := hasK_bd (k := ((2 * p.2 : Nat) : Int)) (b := 1099511627776) (by omega) (us := upN us (p.1 - 1)) (fun u hu => by
      obtain ⟨v, hv, rfl⟩ := List.mem_map.1 hu
      exact ⟨(h.1 v hv).2.2.1, (h.1 v hv).2.2.2⟩)
    rw [upN_len] at h4
    omega
theorem ov_take {c : Cfg} (hr : IsRight c) {us : Ups} (h : UpsIn c 0 us) (hl : us.length ≤ 60) {l : List (Nat × Nat)} (hp : Path c.bt.toNat 0 l) (j : Nat) : -(131941395333120 * 60) ≤ ((l.take j).map (ovQ (ptU c us) us)).sum ∧ ((l.take j).map (ovQ (ptU c us) us)).sum ≤ 131941395333120 * 60 := by
  have h1 := sum_bd (f := ovQ (ptU c us) us) (b := 131941395333120) (l := l.take j) (fun p hm => ov_bd hr h hl hp (List.mem_of_mem_take hm))
  have h2 : (l.take j).length ≤ l.length := by rw [List.length_take]; omega
  have h3 := hp.len
  have hb := hr.1
  have hb2 := hr.2.1
  omega
theorem ov_all {c : Cfg} {us : Ups} {l : List (Nat × Nat)} {B : Nat} (hp : Path B 0 l) : ((l.take B).map (ovQ (ptU c us) us)).sum = (l.map (ovQ (ptU c us) us)).sum := by
  have h1 := take_sum17 (ovQ (ptU c us) us) l hp.last
  have h2 : l.take (B + 1) = l := by rw [← hp.len, List.take_length]
  rw [h2] at h1
  have h3 : ovQ (ptU c us) us (0, keyQ l) = 0 := by unfold ovQ; rw [if_pos rfl]
  omega
theorem rank_cut (a T : Int) (h1 : 1 ≤ T) (h2 : T ≤ 65970697666560) : ∃ V R K : Int, bits .and .i64 a 4611686018427387903 = V ∧ Int.tmod V T = R ∧ IntKind.i64.wrap R = R ∧ wrap64 R = R ∧ wrap64 (1 + R) = K ∧ IntKind.i64.wrap (1 + R) = K ∧ 1 ≤ K ∧ K ≤ T := by
  obtain ⟨v, hv, e⟩ := and_low a 4611686018427387903 (by decide)
  have q0 := Int.tmod_nonneg T (show (0 : Int) ≤ (v : Int) by omega)
  have q1 := Int.tmod_lt_of_pos (v : Int) (show 0 < T by omega)
  exact ⟨(v : Int), Int.tmod (v : Int) T, 1 + Int.tmod (v : Int) T, e, rfl, IntWalk.i64_in _ ⟨by omega, by omega⟩, IntWalk.wrap64_in _ ⟨by omega, by omega⟩, IntWalk.wrap64_in _ ⟨by omega, by omega⟩, IntWalk.i64_in _ ⟨by omega, by omega⟩, by omega, by omega⟩
end Go.Proofs.YtiblpdjehknbcaaGreat.Qnt
/- The code's Update of a stack: all levels are asked, then all are updated. Printed by wip/gen/stk11.py. -/
namespace Go.Proofs.YtiblpdjehknbcaaGreat.Stk
open Go Go.RowKit Lw Grd Lin Con Shp Sk Exa Lev Go.Shelf
set_option linter.unusedVariables false
set_option linter.unusedSimpArgs false
theorem above_up {c : Cfg} {k : Int} (hr : IsRight c) (k0 : 0 ≤ k) (hk : k < keys c 0) {i : Nat} (hi : (i : Int) ≤ c.bt) : aboveV c i k = upK k i ∧ 0 ≤ upK k i ∧ upK k i ≤ k := by
  have h1 : keys c i ≠ 0 := by have := keys_pos.2 ⟨hr, by omega, hi⟩; omega
  have h2 : aboveOk c i k = true := decide_eq_true ⟨h1, hk⟩
  have hp : (0 : Int) < ((2 ^ i : Nat) : Int) := by have := Nat.one_le_two_pow (n := i); omega
  refine ⟨?_, Int.ediv_nonneg k0 (Int.le_of_lt hp), Int.ediv_le_self _ k0⟩
  unfold aboveV upK
  rw [if_pos h2]
  simp
theorem own_cell {w : World} {B : Nat} {e : TypeId} {hdr : Value} {vals : List Value} (h : (ownT B e hdr vals).I w) (hl : 0 < vals.length) : ∃ g cap, hdr = .slice (some ⟨g, 0, none⟩) vals.length cap ∧ vals.length ≤ cap ∧ cap ≤ maxLen ∧ ∀ (j : Nat) (v : Value), vals[j]? = some v → w.cell? ⟨g, j, none⟩ = some v := by
  have h1 : w.ownsRow B e 1 hdr vals.length vals := h
  rcases h1.2 with h0 | ⟨g, cap, cur, rfl, h2, h3, h4, h5, h6⟩
  · have := h0.2
    rw [this] at hl
    simp at hl
  · refine ⟨g, cap, rfl, h4, by assumption, fun j v hj => ?_⟩
    have h7 := h1.cells (g := g) rfl j v hj
    cases j with
    | zero => simpa [Addr.add] using h7
    | succ j => simpa [Addr.add] using h7
/-- A level's Check and Update through the closures. -/
theorem uchk_any (v : Value) (Q : Nat → Prop) (c : Cfg) (l : Int) (st : LS) (k d : Int) (bd : Nat) (w : World) (h : ELV w v Q c l st) (hd : w.cell? ⟨bd, 0, none⟩ = some (.int .i64 d)) (k0 : 0 ≤ k) (k1 : k ≤ 18446744073709551615) (d0 : -9223372036854775808 ≤ d) (d1 : d ≤ 9223372036854775807) :
    Calls Tryz.prog 35 #[v, .int .u64 k, .pointer (some ⟨bd, 0, none⟩)] w fun e w' => e = .returned (.int .i64 (lsCode c l st k d)) ∧ Below w.heap.size w w' := by
  have HE := Lib.hid h
  have K0 := Lib.hid k0
  have K1 := Lib.hid k1
  have D0 := Lib.hid d0
  have D1 := Lib.hid d1
  clear k0 k1 d0 d1 h
  cases st with
  | A L =>
    obtain ⟨p, rfl, h2⟩ := HE.out.2
    have HX := Lib.hid h2
    clear h2
    go_enter Tryz.func35, Tryz.ntmps35
    go_wp2_with (go_at_call 119; (with_reducible refine (echeck_any p Q c l L k d _ HX.out K0.out K1.out D0.out D1.out).mono ?_); rintro e w' ⟨rfl, hb⟩)
    go_ret
    exact ⟨rfl, hb⟩
  | S L =>
    obtain ⟨p, rfl, h2⟩ := HE.out.2
    have HX := Lib.hid h2
    clear h2
    go_enter Tryz.func35, Tryz.ntmps35
    go_wp2_with (go_at_call 135; (with_reducible refine (scheck_any p Q c l L k d _ HX.out K0.out K1.out D0.out D1.out).mono ?_); rintro e w' ⟨rfl, hb⟩)
    go_ret
    exact ⟨rfl, hb⟩
theorem uupd_any (v : Value) (Q : Nat → Prop) (c : Cfg) (l : Int) (st : LS) (k d : Int) (bd : Nat) (w : World) (h : ELV w v Q c l st) (hd : w.cell? ⟨bd, 0, none⟩ = some (.int .i64 d)) (k0 : 0 ≤ k) (k1 : k ≤ 18446744073709551615) (d0 : -9223372036854775808 ≤ d) (d1 : d ≤ 9223372036854775807) :
    Calls Tryz.prog 36 #[v, .int .u64 k, .pointer (some ⟨bd, 0, none⟩)] w fun e w' => e = .returned (.int .i64 (lsCode c l st k d)) ∧ ∃ Q', ELV w' v Q' c l (lsRes c l st k d) ∧ Kept Q w w' ∧ (∀ q, Q' q → Q q ∨ w.heap.size ≤ q) := by
  have HE := Lib.hid h
  have K0 := Lib.hid k0
  have K1 := Lib.hid k1
  have D0 := Lib.hid d0
  have D1 := Lib.hid d1
  clear k0 k1 d0 d1 h
  cases st with
  | A L =>
    obtain ⟨p, rfl, h2⟩ := HE.out.2
    have HX := Lib.hid h2
    clear h2
    go_enter Tryz.func36, Tryz.ntmps36
    go_wp2_with (go_at_call 124; (with_reducible refine (eupd_any p Q c l L k d _ HX.out K0.out K1.out D0.out D1.out).mono ?_); rintro e w' ⟨rfl, Q', h3, h4, h5⟩)
    go_ret
    exact ⟨rfl, Q', ⟨HE.out.1, p, rfl, h3⟩, h4, h5⟩
  | S L =>
    obtain ⟨p, rfl, h2⟩ := HE.out.2
    have HX := Lib.hid h2
    clear h2
    go_enter Tryz.func36, Tryz.ntmps36
    go_wp2_with (go_at_call 140; (with_reducible refine (supd_any p Q c l L k d _ HX.out K0.out K1.out D0.out D1.out).mono ?_); rintro e w' ⟨rfl, Q', h3, h4, h5⟩)
    go_ret
    exact ⟨rfl, Q', ⟨HE.out.1, p, rfl, h3⟩, h4, h5⟩
/-- What the iterator leans on, and the box of what is added. -/
def gsT (bs bk bd b B0 : Nat) (c : Cfg) (k d : Int) (hdr : Value) (vals : List Value) : List Thing := [boxT bk 22 #[.int .u64 k], boxT bs 30 #[.pointer (some ⟨b, 0, none⟩)], boxT bd 2 #[.int .i64 d], boxT b 73 #[.int .i64 c.bt, .int .i64 c.rw, .int .i64 c.wd, .int .i64 c.md, .int .u64 c.sd, hdr], ownT B0 75 hdr vals]
theorem above_seq (m : Nat) (hm : 1 ≤ m) (c : Cfg) (hc : c.Ok) (k d : Int) (k0 : 0 ≤ k) (k1 : k ≤ 18446744073709551615) (bs bk bd b B0 : Nat) (hdr : Value) (vals : List Value) (h1 : 0 < vals.length) (hN : vals.length ≤ 60) (F0 : Nat → Prop) (w0 w : World) (ls : List Thing) (hh : HoldC F0 w0 w (gsT bs bk bd b B0 c k d hdr vals ++ ls)) (w1 : World) (hb : Below w.heap.size w w1) :
    SeqStopsK Fence.wide m Tryz.prog 60 #[.pointer (some ⟨bs, 0, none⟩), .pointer (some ⟨bk, 0, none⟩)] (encL vals c k) (KeptG (manyT (gsT bs bk bd b B0 c k d hdr vals)).F) (fun xs => UpTo xs ∧ xs.length = vals.length) UpTo vals.length w1 := fun l J Jx W hW hJ hJx hY h0 => by
  have hh2 := hh.up (hb.trans (hW.mono hb.size))
  have b1 := hh2.i (t := boxT bs 30 #[.pointer (some ⟨b, 0, none⟩)]) (by simp [gsT])
  have b2 := hh2.i (t := boxT bk 22 #[.int .u64 k]) (by simp [gsT])
  have b3 := hh2.i (t := boxT b 73 #[.int .i64 c.bt, .int .i64 c.rw, .int .i64 c.wd, .int .i64 c.md, .int .u64 c.sd, hdr]) (by simp [gsT])
  have b4 := hh2.i (t := ownT B0 75 hdr vals) (by simp [gsT])
  have hG : ∀ k', (manyT (gsT bs bk bd b B0 c k d hdr vals)).F k' → k' < W.heap.size := fun k' hk => by
    obtain ⟨t, ht, hk2⟩ := hk
    exact t.lt W (hh2.i (List.mem_append_left _ ht)) k' hk2
  obtain ⟨g, cap, rfl, hcap, hmx, hcs⟩ := own_cell b4 h1
  exact above_iter m hm c hc k k0 k1 l bs bk b g cap _ vals hN ⟨boxT bs 30 #[.pointer (some ⟨b, 0, none⟩)], by simp [gsT], rfl⟩ ⟨boxT bk 22 #[.int .u64 k], by simp [gsT], rfl⟩ ⟨boxT b 73 #[.int .i64 c.bt, .int .i64 c.rw, .int .i64 c.wd, .int .i64 c.md, .int .u64 c.sd, .slice (some ⟨g, 0, none⟩) vals.length cap], by simp [gsT], rfl⟩ ⟨ownT B0 75 (.slice (some ⟨g, 0, none⟩) vals.length cap) vals, by simp [gsT], rfl⟩ J Jx W hG hJ hY (box_cell b1 rfl) (box_cell b2 rfl) b3 hcs h0
/-- What the first error of all is in a mode that does not take away. -/
theorem ers_mode {c : Cfg} {k d : Int} {sts : List LS} {w : World} {v : Value} {Q : Nat → Prop} {st : LS} (hr : IsRight c) (k0 : 0 ≤ k) (hk : k < keys c 0) (hm : c.md = 2 ∧ d < 0) (h0 : sts[0]? = some st) (h : ELV w v Q c ((0 : Nat) : Int) st) : ers c k d 0 sts = 3 := by
  have hu : upK k 0 = k := by simp [upK]
  have e1 : lsCode c ((0 : Nat) : Int) st (upK k 0) d = 3 := by
    rw [hu]
    cases st with
    | A L =>
      obtain ⟨p, rfl, h2⟩ := h.2
      have h3 := h2.size.1
      exact (ex_mode (by rw [h3]; exact hk) hm).1
    | S L =>
      show upCode c ((0 : Nat) : Int) L k d = 3
      unfold upCode
      rw [if_neg (by simp; exact hk), if_pos hm.1]
      exact (rs_neg (cols_meet k0 (by simpa using hk)) hm.2).1
  have h2 := ers_first c k d 0 sts 0 st (fun i s hi => by omega) h0 (by rw [Nat.add_zero, e1]; decide)
  rw [h2, Nat.add_zero, e1]
/-- All levels are asked. -/
theorem chk_first (c : Cfg) (hr : IsRight c) (hc : c.Ok) (k d : Int) (k0 : 0 ≤ k) (k1 : k ≤ 18446744073709551615) (hk : k < keys c 0) (d0 : -9223372036854775808 ≤ d) (d1 : d ≤ 9223372036854775807) (sts : List LS) (hl : sts.length = c.bt.toNat + 1) (bd b B0 : Nat) (hdr : Value) (vals : List Value) (ts : List Thing) (hrow : LRow elvT c vals ts sts) (F0 : Nat → Prop) (w0 w : World)
    (hh : HoldC F0 w0 w ([boxT bd 2 #[.int .i64 d], boxT b 73 #[.int .i64 c.bt, .int .i64 c.rw, .int .i64 c.wd, .int .i64 c.md, .int .u64 c.sd, hdr], ownT B0 75 hdr vals] ++ ts)) :
    Calls Tryz.prog 33 #[.func (.func 60) #[] #[.pointer (some ⟨w.heap.size, 0, none⟩), .pointer (some ⟨w.heap.size + 1, 0, none⟩)], .func (.func 35) #[] #[.pointer (some ⟨bd, 0, none⟩)]] ((w.alloc (.cells #[.pointer (some ⟨b, 0, none⟩)] 30)).alloc (.cells #[.int .u64 k] 22)) fun e w' =>
      e = .returned (.int .i64 (ers c k d 0 sts)) ∧ HoldC F0 w0 w' ([boxT bd 2 #[.int .i64 d], boxT b 73 #[.int .i64 c.bt, .int .i64 c.rw, .int .i64 c.wd, .int .i64 c.md, .int .u64 c.sd, hdr], ownT B0 75 hdr vals] ++ ts) := by
  have hvl : vals.length = sts.length := hrow.lv
  have hb59 := hr.1
  have hb60 := hr.2.1
  have B1 : Below w.heap.size w (w.alloc (.cells #[.pointer (some ⟨b, 0, none⟩)] 30)) := Lw.below_alloc (Below.refl _ _) _
  have B2 := Lw.below_alloc (Below.refl _ (w.alloc (.cells #[.pointer (some ⟨b, 0, none⟩)] 30))) (.cells #[.int .u64 k] 22)
  have N2 : ((w.alloc (.cells #[.pointer (some ⟨b, 0, none⟩)] 30)).alloc (.cells #[.int .u64 k] 22)).heap[w.heap.size + 1]? = some (.cells #[.int .u64 k] 22 (0, 0)) := by
    have := heap_alloc_new (w.alloc (.cells #[.pointer (some ⟨b, 0, none⟩)] 30)) (.cells #[.int .u64 k] 22)
    rw [World.size_alloc] at this
    exact this
  have h1 := hh.push (boxT w.heap.size 30 #[.pointer (some ⟨b, 0, none⟩)]) B1 (heap_alloc_new w _) (fun k hk => Nat.le_of_eq hk.symm) (cel_box (heap_alloc_new w _))
  have h2 := h1.push (boxT (w.heap.size + 1) 22 #[.int .u64 k]) B2 N2 (fun k hk => Nat.le_of_eq (by simp; exact hk.symm)) (cel_box N2)
  refine (first_1 c k vals _ bd F0 w0 _ (gsT w.heap.size (w.heap.size + 1) bd b B0 c k d hdr vals) ts
    (fun pre ls => ls = ts ∧ (UpTo pre → ∀ (i : Nat) (s : LS), i < pre.length → sts[i]? = some s → lsCode c ((0 + i : Nat) : Int) s (upK k (0 + i)) d = 0))
    (fun pre code ls => ls = ts ∧ (UpTo pre → ∃ (j : Nat) (s : LS), sts[j]? = some s ∧ lsCode c ((0 + j : Nat) : Int) s (upK k (0 + j)) d = code ∧ ∀ (i : Nat) (s : LS), i < j → sts[i]? = some s → lsCode c ((0 + i : Nat) : Int) s (upK k (0 + i)) d = 0))
    h2 ⟨rfl, fun _ i s hi => by simp at hi⟩
    (fun w1 m hm hb => above_seq m hm c hc k d k0 k1 w.heap.size (w.heap.size + 1) bd b B0 hdr vals (by omega) (by omega) F0 w0 _ ts h2 w1 hb)
    ?_).mono ?_
  · rintro us pre ls x W hW ⟨rfl, hp⟩ hlen
    have hx := x.2
    obtain ⟨st, v, Q, e1, e2, e3⟩ := hrow.at (j := x.1) (by omega)
    have e4 : vals[x.1]'x.2 = v := by
      have h9 := List.getElem?_eq_getElem x.2
      rw [e2] at h9
      exact (Option.some.inj h9).symm
    have hE : ELV W v Q c (x.1 : Int) st := hW.i (t := elvT v Q c (x.1 : Int) st) (List.mem_append_right _ (List.mem_append_right _ (List.mem_of_getElem? e3)))
    have hd := box_cell (hW.i (t := boxT bd 2 #[.int .i64 d]) (List.mem_append_right _ (List.mem_append_left _ (by simp [gsT])))) (i := 0) rfl
    obtain ⟨u1, u2, u3⟩ := above_up hr k0 hk (i := x.1) (by omega)
    rw [e4, u1]
    refine (uchk_any v Q c (x.1 : Int) st (upK k x.1) d bd W hE hd u2 (by omega) d0 d1).mono ?_
    rintro e W' ⟨rfl, hb⟩
    have hG : ∀ k', (manyT (gsT w.heap.size (w.heap.size + 1) bd b B0 c k d hdr vals)).F k' → k' < W.heap.size := fun k' hk => by
      obtain ⟨t, ht, hk2⟩ := hk
      exact t.lt W (hW.i (List.mem_append_right _ (List.mem_append_left _ ht))) k' hk2
    refine ⟨_, ls, rfl, others_of (F := fun _ => False) (Kept.of_below hb) (fun _ h => h.elim), KeptG.of_below hG hb, hW.up hb, fun hz => ⟨rfl, fun hup => ?_⟩, fun hz => ⟨rfl, fun hup => ?_⟩⟩
    · obtain ⟨g1, g2⟩ := UpTo.snoc.1 hup
      intro i s hi hs
      rw [List.length_append, List.length_singleton] at hi
      by_cases hlt : i < pre.length
      · exact hp g1 i s hlt hs
      · obtain rfl : i = x.1 := by omega
        rw [e1] at hs
        injection hs with hs
        subst hs
        rw [Nat.zero_add]
        exact hz
    · obtain ⟨g1, g2⟩ := UpTo.snoc.1 hup
      refine ⟨x.1, st, e1, by rw [Nat.zero_add], fun i s hi hs => hp g1 i s (by omega) hs⟩
  · rintro e W' ⟨ls, hW, (⟨rfl, xs, ⟨x1, x2⟩, rfl, hp⟩ | ⟨pre, code, hup, hne, rfl, rfl, hp⟩)⟩
    · refine ⟨?_, hW.drop.drop⟩
      rw [ers_none c k d 0 sts (fun i s hs => hp x1 i s (by have := (List.getElem?_eq_some_iff.1 hs).1; omega) hs)]
    · obtain ⟨j, s, s1, s2, s3⟩ := hp hup
      refine ⟨?_, hW.drop.drop⟩
      rw [ers_first c k d 0 sts j s s3 s1 (by rw [s2]; exact hne), s2]
/-- All levels are updated. -/
theorem upd_first (c : Cfg) (hr : IsRight c) (hc : c.Ok) (k d : Int) (k0 : 0 ≤ k) (k1 : k ≤ 18446744073709551615) (hk : k < keys c 0) (d0 : -9223372036854775808 ≤ d) (d1 : d ≤ 9223372036854775807) (sts : List LS) (hl : sts.length = c.bt.toNat + 1) (he : ers c k d 0 sts = 0) (bd b B0 : Nat) (hdr : Value) (vals : List Value) (ts : List Thing) (hrow : LRow elvT c vals ts sts) (F0 : Nat → Prop) (w0 w : World)
    (hh : HoldC F0 w0 w ([boxT bd 2 #[.int .i64 d], boxT b 73 #[.int .i64 c.bt, .int .i64 c.rw, .int .i64 c.wd, .int .i64 c.md, .int .u64 c.sd, hdr], ownT B0 75 hdr vals] ++ ts)) :
    Calls Tryz.prog 33 #[.func (.func 60) #[] #[.pointer (some ⟨w.heap.size, 0, none⟩), .pointer (some ⟨w.heap.size + 1, 0, none⟩)], .func (.func 36) #[] #[.pointer (some ⟨bd, 0, none⟩)]] ((w.alloc (.cells #[.pointer (some ⟨b, 0, none⟩)] 30)).alloc (.cells #[.int .u64 k] 22)) fun e w' =>
      e = .returned (.int .i64 0) ∧ ∃ ts', LRow elvT c vals ts' (rss c k d 0 sts) ∧ HoldC F0 w0 w' ([boxT bd 2 #[.int .i64 d], boxT b 73 #[.int .i64 c.bt, .int .i64 c.rw, .int .i64 c.wd, .int .i64 c.md, .int .u64 c.sd, hdr], ownT B0 75 hdr vals] ++ ts') := by
  have hvl : vals.length = sts.length := hrow.lv
  have hb59 := hr.1
  have hb60 := hr.2.1
  have B1 : Below w.heap.size w (w.alloc (.cells #[.pointer (some ⟨b, 0, none⟩)] 30)) := Lw.below_alloc (Below.refl _ _) _
  have B2 := Lw.below_alloc (Below.refl _ (w.alloc (.cells #[.pointer (some ⟨b, 0, none⟩)] 30))) (.cells #[.int .u64 k] 22)
  have N2 : ((w.alloc (.cells #[.pointer (some ⟨b, 0, none⟩)] 30)).alloc (.cells #[.int .u64 k] 22)).heap[w.heap.size + 1]? = some (.cells #[.int .u64 k] 22 (0, 0)) := by
    have := heap_alloc_new (w.alloc (.cells #[.pointer (some ⟨b, 0, none⟩)] 30)) (.cells #[.int .u64 k] 22)
    rw [World.size_alloc] at this
    exact this
  have h1 := hh.push (boxT w.heap.size 30 #[.pointer (some ⟨b, 0, none⟩)]) B1 (heap_alloc_new w _) (fun k hk => Nat.le_of_eq hk.symm) (cel_box (heap_alloc_new w _))
  have h2 := h1.push (boxT (w.heap.size + 1) 22 #[.int .u64 k]) B2 N2 (fun k hk => Nat.le_of_eq (by simp; exact hk.symm)) (cel_box N2)
  refine (first_2 c k vals _ bd F0 w0 _ (gsT w.heap.size (w.heap.size + 1) bd b B0 c k d hdr vals) ts
    (fun pre ls => ∃ sts', LRow elvT c vals ls sts' ∧ sts'.length = sts.length ∧ (UpTo pre → ∀ (i : Nat), sts'[i]? = if i < pre.length then (rss c k d 0 sts)[i]? else sts[i]?))
    (fun pre code ls => UpTo pre → False)
    h2 ⟨sts, hrow, rfl, fun _ i => by simp⟩
    (fun w1 m hm hb => above_seq m hm c hc k d k0 k1 w.heap.size (w.heap.size + 1) bd b B0 hdr vals (by omega) (by omega) F0 w0 _ ts h2 w1 hb)
    ?_).mono ?_
  · rintro us pre ls x W hW ⟨sts', hrow', hl', hp⟩ hlen
    have hx := x.2
    obtain ⟨st, v, Q, e1, e2, e3⟩ := hrow'.at (j := x.1) (by omega)
    have e4 : vals[x.1]'x.2 = v := by
      have h9 := List.getElem?_eq_getElem x.2
      rw [e2] at h9
      exact (Option.some.inj h9).symm
    have hm3 : elvT v Q c (x.1 : Int) st ∈ ls := List.mem_of_getElem? e3
    have hE : ELV W v Q c (x.1 : Int) st := hW.i (t := elvT v Q c (x.1 : Int) st) (List.mem_append_right _ (List.mem_append_right _ hm3))
    have hd := box_cell (hW.i (t := boxT bd 2 #[.int .i64 d]) (List.mem_append_right _ (List.mem_append_left _ (by simp [gsT])))) (i := 0) rfl
    obtain ⟨u1, u2, u3⟩ := above_up hr k0 hk (i := x.1) (by omega)
    rw [e4, u1]
    refine (uupd_any v Q c (x.1 : Int) st (upK k x.1) d bd W hE hd u2 (by omega) d0 d1).mono ?_
    rintro e W' ⟨rfl, Q', hE', hk', hq'⟩
    have hG : ∀ k', (manyT (gsT w.heap.size (w.heap.size + 1) bd b B0 c k d hdr vals)).F k' → k' < W.heap.size := fun k' hk => by
      obtain ⟨t, ht, hk2⟩ := hk
      exact t.lt W (hW.i (List.mem_append_right _ (List.mem_append_left _ ht))) k' hk2
    have hW2 : HoldC F0 w0 W ((us ++ gsT w.heap.size (w.heap.size + 1) bd b B0 c k d hdr vals) ++ (ls ++ [])) := by simpa using hW
    have hW3 := hW2.set e3 (elvT v Q' c (x.1 : Int) (lsRes c (x.1 : Int) st (upK k x.1) d)) hE' hk' hq' (cel_elv hE')
    have hW4 : HoldC F0 w0 W' (us ++ (gsT w.heap.size (w.heap.size + 1) bd b B0 c k d hdr vals ++ ls.set x.1 (elvT v Q' c (x.1 : Int) (lsRes c (x.1 : Int) st (upK k x.1) d)))) := by simpa using hW3
    have hst : UpTo (pre ++ [x]) → sts[x.1]? = some st ∧ x.1 = pre.length ∧ UpTo pre := fun hup => by
      obtain ⟨g1, g2⟩ := UpTo.snoc.1 hup
      have g3 := hp g1 x.1
      rw [if_neg (by omega), e1] at g3
      exact ⟨g3.symm, g2, g1⟩
    refine ⟨_, _, rfl, others_of hk' (cel_elv hE), KeptG.of_kept hG hk' (fun k' ⟨t, ht, h5⟩ => hW.apart hm3 ht h5), hW4, fun hz => ⟨sts'.set x.1 (lsRes c (x.1 : Int) st (upK k x.1) d), hrow'.put e2 Q' _, by simp [hl'], fun hup i => ?_⟩, fun hz hup => ?_⟩
    · obtain ⟨s1, s2, s3⟩ := hst hup
      rw [List.length_append, List.length_singleton, List.getElem?_set]
      by_cases hi : x.1 = i
      · subst hi
        have hlt : x.1 < sts'.length := by omega
        rw [if_pos rfl, if_pos hlt, if_pos (by omega), rss_get c k d 0 sts x.1 st s1, Nat.zero_add]
      · rw [if_neg hi, hp s3 i]
        by_cases hi2 : i < pre.length
        · rw [if_pos hi2, if_pos (by omega)]
        · rw [if_neg hi2, if_neg (by omega)]
    · obtain ⟨s1, s2, s3⟩ := hst hup
      have h9 := ers_ok c k d 0 sts he x.1 st s1
      rw [Nat.zero_add] at h9
      exact hz h9
  · rintro e W' ⟨ls, hW, (⟨rfl, xs, ⟨x1, x2⟩, sts', hrow', hl', hp⟩ | ⟨pre, code, hup, hne, rfl, hp⟩)⟩
    · refine ⟨rfl, ls, ?_, hW.drop.drop⟩
      have e9 : sts' = rss c k d 0 sts := List.ext_getElem? (fun i => by
        rw [hp x1 i]
        by_cases hi : i < xs.length
        · rw [if_pos hi]
        · rw [if_neg hi, List.getElem?_eq_none (by omega), List.getElem?_eq_none (by rw [rss_len]; omega)])
      rw [← e9]
      exact hrow'
    · exact (hp hup).elim
end Go.Proofs.YtiblpdjehknbcaaGreat.Stk
/- Things held while a stack is made: one more level, a box stored to, things left behind. Printed by wip/gen/stk12.py. -/
namespace Go.Proofs.YtiblpdjehknbcaaGreat.Stk
open Go Go.RowKit Lw Grd Lin Con Shp Sk Exa Lev Go.Shelf
set_option linter.unusedVariables false
set_option linter.unusedSimpArgs false
theorem lvs_u : Tryz.prog.underlying 71 = some (.slice 75) := by kernel_rfl
theorem lvs_info : (Tryz.prog.info? 75).map (fun i => (i.zero, i.size, i.bytes)) = some (some .nilIface, 1, 16) := by kernel_rfl
theorem Asun.sub {ts us : List Thing} (h : ts.Sublist us) : Asun us → Asun ts := by
  induction h with
  | slnil => exact id
  | cons a h ih => exact fun g => ih g.2
  | cons_cons a h ih => exact fun g => ⟨fun u hu => g.1 u (h.subset hu), ih g.2⟩
theorem HoldC.sub {F0 : Nat → Prop} {w0 w : World} {ts us : List Thing} (h : HoldC F0 w0 w us) (hs : ts.Sublist us) : HoldC F0 w0 w ts :=
  ⟨⟨h.1.1, fun t ht => h.1.2.1 t (hs.subset ht), Asun.sub hs h.1.2.2⟩, fun t ht => h.2 t (hs.subset ht)⟩
theorem HoldC.start0 {w w' : World} (h : Below w.heap.size w w') : HoldC (fun _ => False) w w' [] := ⟨⟨Kept.of_below h, fun t ht => by simp at ht, trivial⟩, fun t ht => by simp at ht⟩
/-- A new thing behind the others. -/
theorem HoldC.snoc {F0 : Nat → Prop} {w0 w w' : World} {ts : List Thing} (h : HoldC F0 w0 w ts) (t : Thing) (hb : Below w.heap.size w w') (ht : t.I w') (hn : ∀ k, t.F k → w.heap.size ≤ k) (hc : Cel t.F w') : HoldC F0 w0 w' (ts ++ [t]) := by
  have h2 := h.push t hb ht hn hc
  refine ⟨⟨h2.1.1, fun u hu => h2.1.2.1 u (by simpa [or_comm] using hu), Asun.append.2 ⟨h2.1.2.2.2, ⟨fun u hu => by simp at hu, trivial⟩, fun u hu v hv k h3 h4 => ?_⟩⟩, fun u hu => h2.2 u (by simpa [or_comm] using hu)⟩
  rw [List.mem_singleton.1 hv] at h4
  exact h2.1.2.2.1 u hu k h4 h3
/-- One value appended to a row of one's own. -/
theorem HoldC.app {F0 : Nat → Prop} {w0 w w' : World} {fs ts : List Thing} {B : Nat} {e : TypeId} {hdr : Value} {vals : List Value} {v : Value} {g cap : Nat} (h : HoldC F0 w0 w (fs ++ ownT B e hdr vals :: ts)) (own : w'.ownsRow B e 1 (.slice (some ⟨g, 0, none⟩) (vals.length + 1) cap) (vals.length + 1) (vals ++ [v])) (grow : w.grownBy w' hdr.ownBlock) (hat : hdr.ownBlock = some g ∨ g = w.heap.size) :
    HoldC F0 w0 w' (fs ++ ownT B e (.slice (some ⟨g, 0, none⟩) (vals.length + 1) cap) (vals ++ [v]) :: ts) := by
  have hI : (ownT B e (.slice (some ⟨g, 0, none⟩) (vals.length + 1) cap) (vals ++ [v])).I w' := by
    show w'.ownsRow B e 1 _ (vals ++ [v]).length (vals ++ [v])
    rw [List.length_append, List.length_singleton]
    exact own
  refine h.turn _ hI ((Kept.refl _ w).grown grow (fun q e => .inl e)) (fun k hk => ?_) (cel_own hI)
  have hk2 : some g = some k := hk
  injection hk2 with hk2
  rcases hat with h1 | h1
  · exact .inl (show hdr.ownBlock = some k by rw [h1, hk2])
  · exact .inr (by omega)
theorem elv_one {w : World} {v : Value} {F : Nat → Prop} {c : Cfg} {l : Int} {st : LS} (h : ELV w v F c l st) : v.oneCell' = true := by
  cases st with
  | A L =>
    obtain ⟨p, rfl, h2⟩ := h.2
    rfl
  | S L =>
    obtain ⟨p, rfl, h2⟩ := h.2
    rfl
theorem elv_form {w : World} {v : Value} {F : Nat → Prop} {c : Cfg} {l : Int} {st : LS} (h : ELV w v F c l st) : ∃ t p, v = .iface t (.pointer (some p)) := by
  cases st with
  | A L =>
    obtain ⟨p, rfl, h2⟩ := h.2
    exact ⟨_, _, rfl⟩
  | S L =>
    obtain ⟨p, rfl, h2⟩ := h.2
    exact ⟨_, _, rfl⟩
theorem own_nil (B : Nat) (e : TypeId) (w : World) : (ownT B e (.slice none 0 0) []).I w := World.ownsRow_nil _ _ _ _
theorem own_nilF (B : Nat) (e : TypeId) {k m : Nat} (h : (ownT B e (.slice none 0 0) []).F k) : m ≤ k := by
  have h2 : (none : Option Nat) = some k := h
  cases h2
/-- A stack of the code, as a box. -/
abbrev skB (b : Nat) (c : Cfg) (hdr : Value) : Thing := boxT b 73 #[.int .i64 c.bt, .int .i64 c.rw, .int .i64 c.wd, .int .i64 c.md, .int .u64 c.sd, hdr]
theorem skb_set {w : World} {b : Nat} {c : Cfg} {hdr hdr' : Value} (h : (skB b c hdr).I w) : (skB b c hdr').I (w.setCell ⟨b, 5, none⟩ hdr') := by
  have h2 : w.heap[b]? = some (.cells #[.int .i64 c.bt, .int .i64 c.rw, .int .i64 c.wd, .int .i64 c.md, .int .u64 c.sd, hdr] 73 (0, 0)) := h
  obtain ⟨hlt, hk⟩ := Array.getElem?_eq_some_iff.1 h2
  show (w.heap.modify b _)[b]? = _
  rw [Array.getElem?_eq_getElem (by rw [Array.size_modify]; exact hlt), Array.getElem_modify_self, hk]
  rfl
theorem HoldC.store {F0 : Nat → Prop} {w0 w : World} {fs ts : List Thing} {b : Nat} {c : Cfg} {hdr : Value} (h : HoldC F0 w0 w (fs ++ skB b c hdr :: ts)) (hdr' : Value) : HoldC F0 w0 (w.setCell ⟨b, 5, none⟩ hdr') (fs ++ skB b c hdr' :: ts) := by
  have hb := skb_set (hdr' := hdr') (h.i (t := skB b c hdr) (by simp))
  exact h.turn (skB b c hdr') hb (Kept.set (F := (skB b c hdr).F) (Kept.refl _ _) (.inl rfl) 5 hdr') (fun k hk => .inl hk) (cel_box hb)
/-- The stack, as things that hold cells. -/
theorem st_hold {w : World} {b B0 : Nat} {c : Cfg} {hdr : Value} {vals : List Value} {ts : List Thing} {sts : List LS} (hrow : LRow elvT c vals ts sts) (h : (manyT (skB b c hdr :: ownT B0 75 hdr vals :: ts)).I w) : HoldC (manyT (skB b c hdr :: ownT B0 75 hdr vals :: ts)).F w w (skB b c hdr :: ownT B0 75 hdr vals :: ts) := by
  refine ⟨Hold.start h, fun t ht => ?_⟩
  rcases List.mem_cons.1 ht with rfl | ht2
  · exact cel_box (h.1 _ (by simp))
  · rcases List.mem_cons.1 ht2 with rfl | ht3
    · exact cel_own (h.1 _ (by simp))
    · obtain ⟨j, hj⟩ := List.getElem?_of_mem ht3
      have hlt := (List.getElem?_eq_some_iff.1 hj).1
      obtain ⟨st, v, Q, e1, e2, e3⟩ := hrow.at (j := j) (by rw [← hrow.lt]; exact hlt)
      rw [hj] at e3
      injection e3 with e3
      subst e3
      exact cel_elv (show ELV w v Q c (j : Int) st from h.1 _ ht)
/-- A stack that is held. -/
theorem st_of {F0 : Nat → Prop} {w0 w : World} {b B0 : Nat} {c : Cfg} {hdr : Value} {vals : List Value} {ts : List Thing} {sts : List LS} (hr : IsRight c) (hc : c.Ok) (hl : sts.length = c.bt.toNat + 1) (hrow : LRow elvT c vals ts sts) (h : HoldC F0 w0 w (skB b c hdr :: ownT B0 75 hdr vals :: ts)) :
    ST w ⟨b, 0, none⟩ (manyT (skB b c hdr :: ownT B0 75 hdr vals :: ts)).F c sts ∧ Kept F0 w0 w ∧ ∀ q, (manyT (skB b c hdr :: ownT B0 75 hdr vals :: ts)).F q → F0 q ∨ w0.heap.size ≤ q := by
  have h2 := h.1.many
  exact ⟨⟨hr, hc, hl, b, B0, hdr, vals, ts, rfl, hrow, h2.1, rfl⟩, h2.2.1, h2.2.2⟩
end Go.Proofs.YtiblpdjehknbcaaGreat.Stk
/- What the code's stack tells of itself. Printed by wip/gen/stk13.py. -/
namespace Go.Proofs.YtiblpdjehknbcaaGreat.Stk
open Go Go.RowKit Lw Grd Lin Con Shp Sk Exa Lev Go.Shelf
set_option linter.unusedVariables false
set_option linter.unusedSimpArgs false
theorem cs_config (p : Addr) (F : Nat → Prop) (c : Cfg) (sts : List LS) (w : World) (h : ST w p F c sts) :
    Calls Tryz.prog 40 #[.pointer (some p)] w fun e w' => e = .returned (.agg #[.int .i64 c.bt, .int .i64 c.rw, .int .i64 c.wd, .int .i64 c.md, .int .u64 c.sd]) ∧ Below w.heap.size w w' := by
  obtain ⟨hr, hc, hl, b, B0, hdr, vals, ts, rfl, hrow, hI, rfl⟩ := h
  have HH := Lib.hid (st_hold hrow hI)
  have hb1 := hr.1
  have hb2 := hr.2.1
  have hvl : vals.length = c.bt.toNat + 1 := hrow.lv.trans hl
  obtain ⟨g, cap, rfl, hcap, hmx, hcs⟩ := own_cell (HH.out.i (t := ownT B0 75 hdr vals) (by simp)) (by omega)
  have HCS := Lib.hid hcs
  have c0 := box_cell (HH.out.i (t := skB b c (.slice (some ⟨g, 0, none⟩) vals.length cap)) (by simp)) (i := 0) rfl
  have c1 := box_cell (HH.out.i (t := skB b c (.slice (some ⟨g, 0, none⟩) vals.length cap)) (by simp)) (i := 1) rfl
  have c2 := box_cell (HH.out.i (t := skB b c (.slice (some ⟨g, 0, none⟩) vals.length cap)) (by simp)) (i := 2) rfl
  have c3 := box_cell (HH.out.i (t := skB b c (.slice (some ⟨g, 0, none⟩) vals.length cap)) (by simp)) (i := 3) rfl
  have c4 := box_cell (HH.out.i (t := skB b c (.slice (some ⟨g, 0, none⟩) vals.length cap)) (by simp)) (i := 4) rfl
  have hbl := box_lt (HH.out.i (t := skB b c (.slice (some ⟨g, 0, none⟩) vals.length cap)) (by simp))
  clear hrow hI hcs
  go_enter Tryz.func40, Tryz.ntmps40
  go_wp2
  go_returns
  exact ⟨rfl, (by (repeat' (first | (with_reducible exact Below.refl _ _) | (with_reducible assumption) | (with_reducible refine below_over ?_ _ _) | (with_reducible refine Lw.below_alloc ?_ _) | (with_reducible refine Below.drew ?_) | (with_reducible refine below_drewN ?_ _) | (with_reducible refine Below.setCell ?_ ?_ _) | go_size)))⟩
theorem shas_any (p : Addr) (F : Nat → Prop) (c : Cfg) (sts : List LS) (n : Int) (w : World) (h : ST w p F c sts) (n0 : -9223372036854775808 ≤ n) (n1 : n ≤ 9223372036854775807) :
    Calls Tryz.prog 49 #[.pointer (some p), .int .i64 n] w fun e w' => e = .returned (.bool (decide (0 ≤ n ∧ n ≤ c.bt))) ∧ w' = w := by
  obtain ⟨hr, hc, hl, b, B0, hdr, vals, ts, rfl, hrow, hI, rfl⟩ := h
  have HH := Lib.hid (st_hold hrow hI)
  have hb1 := hr.1
  have hb2 := hr.2.1
  have hvl : vals.length = c.bt.toNat + 1 := hrow.lv.trans hl
  obtain ⟨g, cap, rfl, hcap, hmx, hcs⟩ := own_cell (HH.out.i (t := ownT B0 75 hdr vals) (by simp)) (by omega)
  have HCS := Lib.hid hcs
  have c5 := box_cell (HH.out.i (t := skB b c (.slice (some ⟨g, 0, none⟩) vals.length cap)) (by simp)) (i := 5) rfl
  have L6 : (vals.length : Int) = c.bt + 1 := by omega
  have HX : Hid (∀ x : Bool, x = decide (0 ≤ n ∧ n ≤ c.bt) → x = decide (0 ≤ n ∧ n ≤ c.bt)) := Lib.hid (fun _ h => h)
  clear hrow hI hcs
  by_cases hn : 0 ≤ n
  · by_cases hn2 : n ≤ c.bt
    · have hn3 : n < (vals.length : Int) := by omega
      have e : decide (0 ≤ n ∧ n ≤ c.bt) = true := decide_eq_true ⟨hn, hn2⟩
      rw [e]
      go_enter Tryz.func49, Tryz.ntmps49
      go_wp2
      go_ret
      exact ⟨ret_bl (by first | (simp [hn, hn3]; done) | (simp [hn]; omega)), rfl⟩
    · have hn3 : ¬ n < (vals.length : Int) := by omega
      have e : decide (0 ≤ n ∧ n ≤ c.bt) = false := decide_eq_false (fun g => hn2 g.2)
      rw [e]
      go_enter Tryz.func49, Tryz.ntmps49
      go_wp2
      go_ret
      exact ⟨ret_bl (by first | (simp [hn]; done) | (simp [hn]; omega) | (simp; omega)), rfl⟩
  · have e : decide (0 ≤ n ∧ n ≤ c.bt) = false := decide_eq_false (fun g => hn g.1)
    rw [e]
    go_enter Tryz.func49, Tryz.ntmps49
    go_wp2
    go_ret
    exact ⟨ret_bl (by first | (simp [hn]; done) | (simp [hn]; omega) | (simp; omega)), rfl⟩
theorem st_at {b B0 : Nat} {c : Cfg} {hdr : Value} {vals : List Value} {ts : List Thing} {sts : List LS} {F0 : Nat → Prop} {w0 w : World} (hrow : LRow elvT c vals ts sts) (hH : HoldC F0 w0 w (skB b c hdr :: ownT B0 75 hdr vals :: ts)) {n : Nat} {st : LS} (hn : sts[n]? = some st) : ∃ v Q, vals[n]? = some v ∧ ELV w v Q c (n : Int) st := by
  obtain ⟨st2, v, Q, e1, e2, e3⟩ := hrow.at (j := n) ((List.getElem?_eq_some_iff.1 hn).1)
  rw [hn] at e1
  injection e1 with e1
  subst e1
  exact ⟨v, Q, e2, hH.i (t := elvT v Q c (n : Int) st) (List.mem_cons_of_mem _ (List.mem_cons_of_mem _ (List.mem_of_getElem? e3)))⟩
theorem spv_no {c : Cfg} {sts : List LS} {n : Int} (hl : sts.length = c.bt.toNat + 1) (hb : 1 ≤ c.bt) (hn : ¬ (0 ≤ n ∧ n ≤ c.bt)) (i : Int) : spV c sts n i = 0 ∧ spC c sts n i = 2 ∧ lvFl sts n = [] := by
  unfold spV spC lvFl
  by_cases h0 : 0 ≤ n
  · rw [if_pos h0, if_pos h0, if_pos h0, List.getElem?_eq_none (by omega)]
    exact ⟨rfl, rfl, rfl⟩
  · rw [if_neg h0, if_neg h0, if_neg h0]
    exact ⟨rfl, rfl, rfl⟩
theorem spv_yes {c : Cfg} {sts : List LS} {n : Nat} {st : LS} (hn : sts[n]? = some st) (i : Int) : spV c sts (n : Int) i = lsPtV c n st i ∧ spC c sts (n : Int) i = lsPtC c n st i ∧ lvFl sts (n : Int) = st.fl := by
  unfold spV spC lvFl
  rw [if_pos (by omega), if_pos (by omega), if_pos (by omega), Int.toNat_natCast, hn]
  exact ⟨rfl, rfl, rfl⟩
set_option maxHeartbeats 8000000 in
theorem cs_point (p : Addr) (F : Nat → Prop) (c : Cfg) (sts : List LS) (n i : Int) (w : World) (h : ST w p F c sts) (n0 : -9223372036854775808 ≤ n) (n1 : n ≤ 9223372036854775807) (i0 : 0 ≤ i) (i1 : i ≤ 18446744073709551615) :
    Calls Tryz.prog 25 #[.pointer (some p), .agg #[.int .i64 n, .int .u64 i]] w fun e w' => e = .returned (.tuple #[.int .i64 (spV c sts n i), .int .i64 (spC c sts n i)]) ∧ Below w.heap.size w w' := by
  have HS := Lib.hid h
  have N0 := Lib.hid n0
  have N1 := Lib.hid n1
  have I0 := Lib.hid i0
  have I1 := Lib.hid i1
  by_cases hd0 : 0 ≤ n ∧ n ≤ c.bt
  · obtain ⟨m, rfl⟩ : ∃ m : Nat, n = m := ⟨n.toNat, by omega⟩
    have hd : decide (0 ≤ (m : Int) ∧ (m : Int) ≤ c.bt) = true := decide_eq_true hd0
    obtain ⟨hr, hc, hl, b, B0, hdr, vals, ts, rfl, hrow, hI, rfl⟩ := h
    have HH := Lib.hid (st_hold hrow hI)
    have hb1 := hr.1
    have hb2 := hr.2.1
    have hvl : vals.length = c.bt.toNat + 1 := hrow.lv.trans hl
    obtain ⟨g, cap, rfl, hcap, hmx, hcs⟩ := own_cell (HH.out.i (t := ownT B0 75 hdr vals) (by simp)) (by omega)
    have HCS := Lib.hid hcs
    have c5 := box_cell (HH.out.i (t := skB b c (.slice (some ⟨g, 0, none⟩) vals.length cap)) (by simp)) (i := 5) rfl
    have L6 : (vals.length : Int) = c.bt + 1 := by omega
    have hn4 : (m : Int) < (vals.length : Int) := by omega
    have hn5 : m < vals.length := by omega
    have hn6 : (0 : Int) ≤ (m : Int) := by omega
    obtain ⟨st, hst⟩ : ∃ st, sts[m]? = some st := ⟨_, List.getElem?_eq_getElem (by omega)⟩
    obtain ⟨e1, e2, _⟩ := spv_yes (c := c) hst i
    rw [e1, e2]
    obtain ⟨v, Q, e3, hE⟩ := st_at hrow HH.out hst
    have c6 := hcs m v e3
    have HE := Lib.hid hE
    have hd1 := hd0.2
    have hlt5 := cell_lt c5
    have hlt6 := cell_lt c6
    clear hrow hI hcs hE e3 hst e1 e2 hd0 n0 n1 i0 i1 L6 hvl
    cases st with
    | A L =>
      obtain ⟨q, rfl, h2⟩ := HE.out.2
      have HX := Lib.hid h2
      clear h2
      go_enter Tryz.func25, Tryz.ntmps25
      go_wp2_with (go_at_call 49; (with_reducible refine (shas_any _ _ c sts m _ (HS.out.up (Lw.below_alloc (Below.refl _ _) _)) N0.out N1.out).mono ?_); rintro e w' ⟨rfl, rfl⟩; rw [hd])
      have k5 := cell_up c5 (Lw.below_alloc (Below.refl _ w) (.cells #[.int .i64 m, .int .u64 i] 61))
      have k6 := cell_up c6 (Lw.below_alloc (Below.refl _ w) (.cells #[.int .i64 m, .int .u64 i] 61))
      have q0 : (w.alloc (.cells #[.int .i64 m, .int .u64 i] 61)).cell? ⟨w.heap.size, 0, none⟩ = some (.int .i64 m) := box_cell (heap_alloc_new w _) rfl
      have q1 : (w.alloc (.cells #[.int .i64 m, .int .u64 i] 61)).cell? ⟨w.heap.size, 1, none⟩ = some (.int .u64 i) := box_cell (heap_alloc_new w _) rfl
      have B0w : Below w.heap.size w (w.alloc (.cells #[.int .i64 m, .int .u64 i] 61)) := Lw.below_alloc (Below.refl _ _) _
      have HX1 := Lib.hid (HX.out.up B0w)
      obtain ⟨W, hW⟩ : ∃ W, w.alloc (.cells #[.int .i64 m, .int .u64 i] 61) = W := ⟨_, rfl⟩
      have hWs : w.heap.size < W.heap.size := by rw [← hW]; simp
      rw [hW] at k5 k6 q0 q1 B0w HX1 ⊢
      clear hW
      go_region_held3 (fun w' => Below W.heap.size W w' ∧ w'.cell? ⟨b, 5, none⟩ = some (.slice (some ⟨g, 0, none⟩) vals.length cap) ∧ w'.cell? ⟨w.heap.size, 0, none⟩ = some (.int .i64 m) ∧ w'.cell? ⟨w.heap.size, 1, none⟩ = some (.int .u64 i) ∧ w'.cell? ⟨g, m, none⟩ = some (.iface 117 (.pointer (some q)))) (first | (refine ⟨?_, ?_, ?_, ?_, ?_⟩ <;> (first | (with_reducible assumption) | (with_reducible refine cell_up k5 ?_) | (with_reducible refine cell_up k6 ?_) | (with_reducible refine cell_up q0 ?_) | (with_reducible refine cell_up q1 ?_) | skip) <;> (repeat' (first | (with_reducible exact Below.refl _ _) | (with_reducible assumption) | (with_reducible refine below_over ?_ _ _) | (with_reducible refine Lw.below_alloc ?_ _) | (with_reducible refine Below.drew ?_) | (with_reducible refine below_drewN ?_ _) | go_size)))) (first
        | (go_at_call 123; (with_reducible refine (epoint_any q Q c m L i _ (HX1.out.up (by (repeat' (first | (with_reducible exact Below.refl _ _) | (with_reducible assumption) | (with_reducible refine below_over ?_ _ _) | (with_reducible refine Lw.below_alloc ?_ _) | (with_reducible refine Below.drew ?_) | (with_reducible refine below_drewN ?_ _) | (with_reducible refine Below.setCell ?_ ?_ _) | go_size)))) I0.out I1.out).mono ?_); rintro e w5 ⟨rfl, hb⟩; obtain ⟨bs, d, rfl⟩ := below_grow hb; clear hb))
      all_goals go_wp2
      all_goals go_ret2
      all_goals exact ⟨rfl, B0w.trans ((show Below W.heap.size W _ from (by (repeat' (first | (with_reducible exact Below.refl _ _) | (with_reducible assumption) | (with_reducible refine below_over ?_ _ _) | (with_reducible refine Lw.below_alloc ?_ _) | (with_reducible refine Below.drew ?_) | (with_reducible refine below_drewN ?_ _) | (with_reducible refine Below.setCell ?_ ?_ _) | go_size)))).mono B0w.size)⟩
    | S L =>
      obtain ⟨q, rfl, h2⟩ := HE.out.2
      have HX := Lib.hid h2
      clear h2
      go_enter Tryz.func25, Tryz.ntmps25
      go_wp2_with (go_at_call 49; (with_reducible refine (shas_any _ _ c sts m _ (HS.out.up (Lw.below_alloc (Below.refl _ _) _)) N0.out N1.out).mono ?_); rintro e w' ⟨rfl, rfl⟩; rw [hd])
      have k5 := cell_up c5 (Lw.below_alloc (Below.refl _ w) (.cells #[.int .i64 m, .int .u64 i] 61))
      have k6 := cell_up c6 (Lw.below_alloc (Below.refl _ w) (.cells #[.int .i64 m, .int .u64 i] 61))
      have q0 : (w.alloc (.cells #[.int .i64 m, .int .u64 i] 61)).cell? ⟨w.heap.size, 0, none⟩ = some (.int .i64 m) := box_cell (heap_alloc_new w _) rfl
      have q1 : (w.alloc (.cells #[.int .i64 m, .int .u64 i] 61)).cell? ⟨w.heap.size, 1, none⟩ = some (.int .u64 i) := box_cell (heap_alloc_new w _) rfl
      have B0w : Below w.heap.size w (w.alloc (.cells #[.int .i64 m, .int .u64 i] 61)) := Lw.below_alloc (Below.refl _ _) _
      have HX1 := Lib.hid (HX.out.up B0w)
      obtain ⟨W, hW⟩ : ∃ W, w.alloc (.cells #[.int .i64 m, .int .u64 i] 61) = W := ⟨_, rfl⟩
      have hWs : w.heap.size < W.heap.size := by rw [← hW]; simp
      rw [hW] at k5 k6 q0 q1 B0w HX1 ⊢
      clear hW
      go_region_held3 (fun w' => Below W.heap.size W w' ∧ w'.cell? ⟨b, 5, none⟩ = some (.slice (some ⟨g, 0, none⟩) vals.length cap) ∧ w'.cell? ⟨w.heap.size, 0, none⟩ = some (.int .i64 m) ∧ w'.cell? ⟨w.heap.size, 1, none⟩ = some (.int .u64 i) ∧ w'.cell? ⟨g, m, none⟩ = some (.iface 120 (.pointer (some q)))) (first | (refine ⟨?_, ?_, ?_, ?_, ?_⟩ <;> (first | (with_reducible assumption) | (with_reducible refine cell_up k5 ?_) | (with_reducible refine cell_up k6 ?_) | (with_reducible refine cell_up q0 ?_) | (with_reducible refine cell_up q1 ?_) | skip) <;> (repeat' (first | (with_reducible exact Below.refl _ _) | (with_reducible assumption) | (with_reducible refine below_over ?_ _ _) | (with_reducible refine Lw.below_alloc ?_ _) | (with_reducible refine Below.drew ?_) | (with_reducible refine below_drewN ?_ _) | go_size)))) (first
        | (go_at_call 139; (with_reducible refine (spoint_any q Q c m L i _ (HX1.out.up (by (repeat' (first | (with_reducible exact Below.refl _ _) | (with_reducible assumption) | (with_reducible refine below_over ?_ _ _) | (with_reducible refine Lw.below_alloc ?_ _) | (with_reducible refine Below.drew ?_) | (with_reducible refine below_drewN ?_ _) | (with_reducible refine Below.setCell ?_ ?_ _) | go_size)))) I0.out I1.out).mono ?_); rintro e w5 ⟨rfl, hb⟩; obtain ⟨bs, d, rfl⟩ := below_grow hb; clear hb))
      all_goals go_wp2
      all_goals go_ret2
      all_goals exact ⟨rfl, B0w.trans ((show Below W.heap.size W _ from (by (repeat' (first | (with_reducible exact Below.refl _ _) | (with_reducible assumption) | (with_reducible refine below_over ?_ _ _) | (with_reducible refine Lw.below_alloc ?_ _) | (with_reducible refine Below.drew ?_) | (with_reducible refine below_drewN ?_ _) | (with_reducible refine Below.setCell ?_ ?_ _) | go_size)))).mono B0w.size)⟩
  · have hd : decide (0 ≤ n ∧ n ≤ c.bt) = false := decide_eq_false hd0
    obtain ⟨e1, e2, _⟩ := spv_no HS.out.right.2.2 HS.out.right.1.1 hd0 i
    rw [e1, e2]
    clear h hd0 n0 n1 i0 i1
    go_enter Tryz.func25, Tryz.ntmps25
    go_wp2_with (go_at_call 49; (with_reducible refine (shas_any _ _ c sts n _ (HS.out.up (Lw.below_alloc (Below.refl _ _) _)) N0.out N1.out).mono ?_); rintro e w' ⟨rfl, rfl⟩; rw [hd])
    go_ret2
    exact ⟨rfl, (by (repeat' (first | (with_reducible exact Below.refl _ _) | (with_reducible assumption) | (with_reducible refine below_over ?_ _ _) | (with_reducible refine Lw.below_alloc ?_ _) | (with_reducible refine Below.drew ?_) | (with_reducible refine below_drewN ?_ _) | (with_reducible refine Below.setCell ?_ ?_ _) | go_size)))⟩
theorem cs_total (p : Addr) (F : Nat → Prop) (c : Cfg) (sts : List LS) (w : World) (h : ST w p F c sts) :
    Calls Tryz.prog 28 #[.pointer (some p)] w fun e w' => e = .returned (.int .i64 (spV c sts c.bt 0)) ∧ Below w.heap.size w w' := by
  have HS := Lib.hid h
  obtain ⟨hr, hc, hl, b, B0, hdr, vals, ts, rfl, hrow, hI, rfl⟩ := h
  have HH := Lib.hid (st_hold hrow hI)
  have hb1 := hr.1
  have hb2 := hr.2.1
  have hvl : vals.length = c.bt.toNat + 1 := hrow.lv.trans hl
  obtain ⟨g, cap, rfl, hcap, hmx, hcs⟩ := own_cell (HH.out.i (t := ownT B0 75 hdr vals) (by simp)) (by omega)
  have HCS := Lib.hid hcs
  have c0 := box_cell (HH.out.i (t := skB b c (.slice (some ⟨g, 0, none⟩) vals.length cap)) (by simp)) (i := 0) rfl
  have CP := Lib.hid (cs_point _ _ c sts c.bt 0 w HS.out (by omega) (by omega) (by omega) (by omega))
  clear hrow hI hcs hvl
  go_enter Tryz.func28, Tryz.ntmps28
  go_wp2_with (go_at_call 25; (with_reducible refine CP.out.mono ?_); rintro e w5 ⟨rfl, hb⟩)
  go_ret
  exact ⟨rfl, hb⟩
end Go.Proofs.YtiblpdjehknbcaaGreat.Stk
/- The code's half: with which half one goes on. By hand. -/
namespace Go.Proofs.YtiblpdjehknbcaaGreat.Qnt
open Go Go.RowKit Lw Grd Lin Con Shp Sk Exa Lev Stk Pcs Spn
set_option linter.unusedVariables false
set_option linter.unusedSimpArgs false
theorem fld_btq (c : Cfg) (w : World) : (Instr.field 24 (.agg #[.int .i64 c.bt, .int .i64 c.rw, .int .i64 c.wd, .int .i64 c.md, .int .u64 c.sd]) 0).run Tryz.prog w = .ok (.int .i64 c.bt) w := by kernel_rfl
theorem blk_new {X : World} {n : Nat} {o : Obj} (h : X.heap.size = n) : (X.alloc o).heap[n]? = some o := by
  subst h
  exact heap_alloc_new X _
theorem blk_up {X Y : World} {b : Nat} {o : Obj} (h : X.heap[b]? = some o) (hb : Below X.heap.size X Y) : Y.heap[b]? = some o := by
  rw [hb.block b (Array.getElem?_eq_some_iff.1 h).1]
  exact h
theorem blk_alloc {X : World} {b : Nat} {o p : Obj} (h : X.heap[b]? = some o) : (X.alloc p).heap[b]? = some o := blk_up h (Lw.below_alloc (Below.refl _ _) _)
theorem blk_grow {X : World} {b : Nat} {o : Obj} {bs : Array Obj} {d : Nat} (h : X.heap[b]? = some o) : (grow X bs d).heap[b]? = some o := blk_up h (grow_below X bs d)
theorem blk_frozen {X : World} {b : Nat} {vs : Array Value} {e : TypeId} (h : X.heap[b]? = some (.cells vs e (0, 0))) (i : Nat) : X.frozen? ⟨b, i, none⟩ = false := by
  simp [World.frozen?, h]
theorem blk_set {X : World} {b : Nat} {e : TypeId} {vs : Array Value} (h : X.heap[b]? = some (.cells vs e (0, 0))) (i : Nat) (v : Value) : (X.setCell ⟨b, i, none⟩ v).heap[b]? = some (.cells (vs.setIfInBounds i v) e (0, 0)) := by
  simp [World.setCell, Array.getElem?_modify, h]
set_option maxRecDepth 100000 in
set_option maxHeartbeats 4000000 in
theorem qhalf_l (p : Addr) (F : Nat → Prop) (c : Cfg) (sts : List LS) (LL II VV k : Int) (w : World) (h : ST w p F c sts) (hP : isP c.bt LL II = true) (hL : 1 ≤ LL) (hI : 0 ≤ II) (hV : spV c sts (LL - 1) (2 * II) = VV) (hk : k ≤ VV) :
    Calls Tryz.prog 65 #[.pointer (some p), .agg #[.int .i64 LL, .int .u64 II], .int .i64 k] w fun e w' => e = .returned (.tuple #[.agg #[.int .i64 (LL - 1), .int .u64 (2 * II)], .int .i64 k, .bool true]) ∧ Below w.heap.size w w' := by
  have HS := Lib.hid h
  obtain ⟨h1, h2, h3, h4, h5, h6, h7⟩ := isP_bd hP hI
  have h8 := p2_bd (k := (c.bt - LL).toNat) (by omega)
  have CH := Lib.hid (fun w => chalves_y c.bt LL II w (by omega) (by omega) (by omega) (by omega) hI (by omega) hP (by omega))
  have CP := Lib.hid (fun w hs => cs_point p F c sts (LL - 1) (2 * II) w hs (by omega) (by omega) (by omega) (by omega))
  rw [hV] at CP
  have hfd := fld_btq c
  have g1 : decide (k ≤ VV) = true := decide_eq_true hk
  obtain ⟨L1, hL1⟩ : ∃ v, LL - 1 = v := ⟨_, rfl⟩
  obtain ⟨I2, hI2⟩ : ∃ v, 2 * II = v := ⟨_, rfl⟩
  obtain ⟨I3, hI3⟩ : ∃ v, I2 + 1 = v := ⟨_, rfl⟩
  obtain ⟨VC, hVC⟩ : ∃ v, spC c sts L1 I2 = v := ⟨_, rfl⟩
  rw [hL1, hI2] at CP CH
  rw [hVC] at CP
  rw [hI3] at CH
  rw [hL1, hI2]
  clear h hP hL hI hV hL1 hI2 hI3 hVC h1 h2 h3 h4 h5 h6 h7 h8
  go_enter Tryz.func65, Tryz.ntmps65
  go_wp2
  have B0w : Below w.heap.size w ((w.alloc (.cells #[.int .i64 LL, .int .u64 II] 61)).alloc (.cells #[.int .i64 0, .int .u64 0] 61)) := Lw.below_alloc (Lw.below_alloc (Below.refl _ _) _) _
  have q0 : ((w.alloc (.cells #[.int .i64 LL, .int .u64 II] 61)).alloc (.cells #[.int .i64 0, .int .u64 0] 61)).cell? ⟨w.heap.size, 0, none⟩ = some (.int .i64 LL) := by
    rw [World.cell?_alloc_lt _ _ _ (by simp)]
    exact box_cell (heap_alloc_new w _) rfl
  have q1 : ((w.alloc (.cells #[.int .i64 LL, .int .u64 II] 61)).alloc (.cells #[.int .i64 0, .int .u64 0] 61)).cell? ⟨w.heap.size, 1, none⟩ = some (.int .u64 II) := by
    rw [World.cell?_alloc_lt _ _ _ (by simp)]
    exact box_cell (heap_alloc_new w _) rfl
  have r0 : ((w.alloc (.cells #[.int .i64 LL, .int .u64 II] 61)).alloc (.cells #[.int .i64 0, .int .u64 0] 61)).heap[w.heap.size + 1]? = some (.cells #[.int .i64 0, .int .u64 0] 61 (0, 0)) := by
    have := heap_alloc_new (w.alloc (.cells #[.int .i64 LL, .int .u64 II] 61)) (.cells #[.int .i64 0, .int .u64 0] 61)
    simpa using this
  obtain ⟨W, hW⟩ : ∃ W, (w.alloc (.cells #[.int .i64 LL, .int .u64 II] 61)).alloc (.cells #[.int .i64 0, .int .u64 0] 61) = W := ⟨_, rfl⟩
  have hWs : W.heap.size = w.heap.size + 2 := by rw [← hW]; simp
  rw [hW] at B0w q0 q1 r0 ⊢
  clear hW
  have HS1 := Lib.hid (HS.out.up B0w)
  have R0 := Lib.hid r0
  clear r0
  go_cut [9, 10, 11] (fun s9 s10 s11 wx => ∃ a b : Nat, s9 = .pointer (some ⟨a, 0, none⟩) ∧ s10 = .pointer (some ⟨b, 0, none⟩) ∧ s11 = .bool true ∧ Below W.heap.size W wx ∧ wx.heap[a]? = some (.cells #[.int .i64 L1, .int .u64 I2] 61 (0, 0)) ∧ wx.heap[b]? = some (.cells #[.int .i64 L1, .int .u64 I3] 61 (0, 0)))
  case first =>
    go_region_held3 (fun w' => Below W.heap.size W w' ∧ w'.cell? ⟨w.heap.size, 0, none⟩ = some (.int .i64 LL) ∧ w'.cell? ⟨w.heap.size, 1, none⟩ = some (.int .u64 II)) (first | (refine ⟨?_, ?_, ?_⟩ <;> (first | (with_reducible assumption) | (with_reducible refine cell_up q0 ?_) | (with_reducible refine cell_up q1 ?_) | skip) <;> (repeat' (first | (with_reducible exact Below.refl _ _) | (with_reducible assumption) | (with_reducible refine below_over ?_ _ _) | (with_reducible refine Lw.below_alloc ?_ _) | (with_reducible refine Below.drew ?_) | (with_reducible refine below_drewN ?_ _) | (with_reducible refine Below.setCell ?_ ?_ _) | go_size)))) (first
      | (go_at_call 40; (with_reducible refine (cs_config p F c sts _ (HS1.out.up (by (repeat' (first | (with_reducible exact Below.refl _ _) | (with_reducible assumption) | (with_reducible refine below_over ?_ _ _) | (with_reducible refine Lw.below_alloc ?_ _) | (with_reducible refine Below.drew ?_) | (with_reducible refine below_drewN ?_ _) | (with_reducible refine Below.setCell ?_ ?_ _) | go_size))))).mono ?_); rintro e w5 ⟨rfl, hb⟩; obtain ⟨bs, d, rfl⟩ := below_grow hb; clear hb)
      | (go_at_call 75; (with_reducible refine (CH.out _).mono ?_); rintro e w5 ⟨rfl, hb⟩; obtain ⟨bs, d, rfl⟩ := below_grow hb; clear hb))
    all_goals go_wp2_with fail
    all_goals go_meet
    all_goals refine ⟨_, _, rfl, rfl, rfl, (by (repeat' (first | (with_reducible exact Below.refl _ _) | (with_reducible assumption) | (with_reducible refine below_over ?_ _ _) | (with_reducible refine Lw.below_alloc ?_ _) | (with_reducible refine Below.drew ?_) | (with_reducible refine below_drewN ?_ _) | (with_reducible refine Below.setCell ?_ ?_ _) | go_size))), ?_, ?_⟩
    all_goals repeat' (first | (with_reducible refine blk_grow ?_) | (refine blk_new ?_; go_size; done) | (refine blk_new ?_; simp; omega) | (with_reducible refine blk_alloc ?_))
  case rest =>
    obtain ⟨a, b, rfl, rfl, rfl, hb, ha0, hb0⟩ := hcut
    obtain ⟨wo, rfl⟩ : ∃ wo, wo = wc := ⟨_, rfl⟩
    have HBo := Lib.hid (B0w.trans (hb.mono (by omega)))
    have hws := hb.size
    have HS2 := Lib.hid (HS1.out.up hb)
    have HA0 := Lib.hid ha0
    have HB0 := Lib.hid hb0
    have HR0 := Lib.hid (blk_up R0.out hb)
    have a0 := box_cell ha0 (i := 0) rfl
    have a1 := box_cell ha0 (i := 1) rfl
    have hla : a < wo.heap.size := (Array.getElem?_eq_some_iff.1 ha0).1
    have hlb : b < wo.heap.size := (Array.getElem?_eq_some_iff.1 hb0).1
    clear ha0 hb0 q0 q1 hb B0w
    go_wp2_with (go_at_call 25; (with_reducible refine (CP.out _ HS2.out).mono ?_); rintro e w6 ⟨rfl, hb⟩; have HB6 := Lib.hid (HBo.out.trans (hb.mono HBo.out.size)); have HC6 := Lib.hid (blk_up HR0.out hb); have c6 := box_cell HC6.out (i := 0) rfl; have c7 := box_cell HC6.out (i := 1) rfl; have f6 : w6.frozen? ⟨w.heap.size + 1, 0, none⟩ = false := blk_frozen HC6.out 0; have f7 : w6.frozen? ⟨w.heap.size + 1, 1, none⟩ = false := blk_frozen HC6.out 1; have y0 := box_cell (blk_up HA0.out hb) (i := 0) rfl; have y1 := box_cell (blk_up HA0.out hb) (i := 1) rfl; clear hb)
    have HC8 := Lib.hid (blk_set (blk_set HC6.out 0 (.int .i64 L1)) 1 (.int .u64 I2))
    have HB8 : Hid (Below w.heap.size w ((w6.setCell ⟨w.heap.size + 1, 0, none⟩ (.int .i64 L1)).setCell ⟨w.heap.size + 1, 1, none⟩ (.int .u64 I2))) := Lib.hid (by refine Below.setCell (Below.setCell HB6.out ?_ _) ?_ _ <;> simp)
    obtain ⟨w8, hw8⟩ : ∃ w8, (w6.setCell ⟨w.heap.size + 1, 0, none⟩ (.int .i64 L1)).setCell ⟨w.heap.size + 1, 1, none⟩ (.int .u64 I2) = w8 := ⟨_, rfl⟩
    rw [hw8] at HC8 HB8 ⊢
    have v0 := box_cell HC8.out (i := 0) (v := .int .i64 L1) (by simp)
    have v1 := box_cell HC8.out (i := 1) (v := .int .u64 I2) (by simp)
    refine bodyPost_ret (v := .tuple #[.agg #[.int .i64 L1, .int .u64 I2], .int .i64 k, .bool true]) (by simp [results, Tryz.results65, go_sem, v0, v1]) rfl ?_
    exact ⟨rfl, HB8.out⟩
set_option maxRecDepth 100000 in
set_option maxHeartbeats 4000000 in
theorem qhalf_r (p : Addr) (F : Nat → Prop) (c : Cfg) (sts : List LS) (LL II VV k : Int) (w : World) (h : ST w p F c sts) (hP : isP c.bt LL II = true) (hL : 1 ≤ LL) (hI : 0 ≤ II) (hV : spV c sts (LL - 1) (2 * II) = VV) (hk : ¬ k ≤ VV) (k1 : k ≤ 9223372036854775807) (v0 : -9223372036854775808 ≤ VV) :
    Calls Tryz.prog 65 #[.pointer (some p), .agg #[.int .i64 LL, .int .u64 II], .int .i64 k] w fun e w' => e = .returned (.tuple #[.agg #[.int .i64 (LL - 1), .int .u64 (2 * II + 1)], .int .i64 (Wid.f64 (k - VV)), .bool (Wid.fit64 (k - VV))]) ∧ Below w.heap.size w w' := by
  have HS := Lib.hid h
  obtain ⟨h1, h2, h3, h4, h5, h6, h7⟩ := isP_bd hP hI
  have h8 := p2_bd (k := (c.bt - LL).toNat) (by omega)
  have CH := Lib.hid (fun w => chalves_y c.bt LL II w (by omega) (by omega) (by omega) (by omega) hI (by omega) hP (by omega))
  have CP := Lib.hid (fun w hs => cs_point p F c sts (LL - 1) (2 * II) w hs (by omega) (by omega) (by omega) (by omega))
  rw [hV] at CP
  have hfd := fld_btq c
  have g1 : decide (k ≤ VV) = false := decide_eq_false hk
  have CM := Lib.hid (fun w => Wid.minus_any k VV w (by omega) (by omega) (by omega) (by omega))
  obtain ⟨KK, hKK⟩ : ∃ v, Wid.f64 (k - VV) = v := ⟨_, rfl⟩
  obtain ⟨KF, hKF⟩ : ∃ v, Wid.fit64 (k - VV) = v := ⟨_, rfl⟩
  rw [hKK, hKF] at CM
  rw [hKK, hKF]
  obtain ⟨L1, hL1⟩ : ∃ v, LL - 1 = v := ⟨_, rfl⟩
  obtain ⟨I2, hI2⟩ : ∃ v, 2 * II = v := ⟨_, rfl⟩
  obtain ⟨I3, hI3⟩ : ∃ v, I2 + 1 = v := ⟨_, rfl⟩
  obtain ⟨VC, hVC⟩ : ∃ v, spC c sts L1 I2 = v := ⟨_, rfl⟩
  rw [hL1, hI2] at CP CH
  rw [hVC] at CP
  rw [hI3] at CH
  rw [hL1, hI2, hI3]
  clear h hP hL hI hV hKK hKF k1 v0 hL1 hI2 hI3 hVC h1 h2 h3 h4 h5 h6 h7 h8
  go_enter Tryz.func65, Tryz.ntmps65
  go_wp2
  have B0w : Below w.heap.size w ((w.alloc (.cells #[.int .i64 LL, .int .u64 II] 61)).alloc (.cells #[.int .i64 0, .int .u64 0] 61)) := Lw.below_alloc (Lw.below_alloc (Below.refl _ _) _) _
  have q0 : ((w.alloc (.cells #[.int .i64 LL, .int .u64 II] 61)).alloc (.cells #[.int .i64 0, .int .u64 0] 61)).cell? ⟨w.heap.size, 0, none⟩ = some (.int .i64 LL) := by
    rw [World.cell?_alloc_lt _ _ _ (by simp)]
    exact box_cell (heap_alloc_new w _) rfl
  have q1 : ((w.alloc (.cells #[.int .i64 LL, .int .u64 II] 61)).alloc (.cells #[.int .i64 0, .int .u64 0] 61)).cell? ⟨w.heap.size, 1, none⟩ = some (.int .u64 II) := by
    rw [World.cell?_alloc_lt _ _ _ (by simp)]
    exact box_cell (heap_alloc_new w _) rfl
  have r0 : ((w.alloc (.cells #[.int .i64 LL, .int .u64 II] 61)).alloc (.cells #[.int .i64 0, .int .u64 0] 61)).heap[w.heap.size + 1]? = some (.cells #[.int .i64 0, .int .u64 0] 61 (0, 0)) := by
    have := heap_alloc_new (w.alloc (.cells #[.int .i64 LL, .int .u64 II] 61)) (.cells #[.int .i64 0, .int .u64 0] 61)
    simpa using this
  obtain ⟨W, hW⟩ : ∃ W, (w.alloc (.cells #[.int .i64 LL, .int .u64 II] 61)).alloc (.cells #[.int .i64 0, .int .u64 0] 61) = W := ⟨_, rfl⟩
  have hWs : W.heap.size = w.heap.size + 2 := by rw [← hW]; simp
  rw [hW] at B0w q0 q1 r0 ⊢
  clear hW
  have HS1 := Lib.hid (HS.out.up B0w)
  have R0 := Lib.hid r0
  clear r0
  go_cut [9, 10, 11] (fun s9 s10 s11 wx => ∃ a b : Nat, s9 = .pointer (some ⟨a, 0, none⟩) ∧ s10 = .pointer (some ⟨b, 0, none⟩) ∧ s11 = .bool true ∧ Below W.heap.size W wx ∧ wx.heap[a]? = some (.cells #[.int .i64 L1, .int .u64 I2] 61 (0, 0)) ∧ wx.heap[b]? = some (.cells #[.int .i64 L1, .int .u64 I3] 61 (0, 0)))
  case first =>
    go_region_held3 (fun w' => Below W.heap.size W w' ∧ w'.cell? ⟨w.heap.size, 0, none⟩ = some (.int .i64 LL) ∧ w'.cell? ⟨w.heap.size, 1, none⟩ = some (.int .u64 II)) (first | (refine ⟨?_, ?_, ?_⟩ <;> (first | (with_reducible assumption) | (with_reducible refine cell_up q0 ?_) | (with_reducible refine cell_up q1 ?_) | skip) <;> (repeat' (first | (with_reducible exact Below.refl _ _) | (with_reducible assumption) | (with_reducible refine below_over ?_ _ _) | (with_reducible refine Lw.below_alloc ?_ _) | (with_reducible refine Below.drew ?_) | (with_reducible refine below_drewN ?_ _) | (with_reducible refine Below.setCell ?_ ?_ _) | go_size)))) (first
      | (go_at_call 40; (with_reducible refine (cs_config p F c sts _ (HS1.out.up (by (repeat' (first | (with_reducible exact Below.refl _ _) | (with_reducible assumption) | (with_reducible refine below_over ?_ _ _) | (with_reducible refine Lw.below_alloc ?_ _) | (with_reducible refine Below.drew ?_) | (with_reducible refine below_drewN ?_ _) | (with_reducible refine Below.setCell ?_ ?_ _) | go_size))))).mono ?_); rintro e w5 ⟨rfl, hb⟩; obtain ⟨bs, d, rfl⟩ := below_grow hb; clear hb)
      | (go_at_call 75; (with_reducible refine (CH.out _).mono ?_); rintro e w5 ⟨rfl, hb⟩; obtain ⟨bs, d, rfl⟩ := below_grow hb; clear hb))
    all_goals go_wp2_with fail
    all_goals go_meet
    all_goals refine ⟨_, _, rfl, rfl, rfl, (by (repeat' (first | (with_reducible exact Below.refl _ _) | (with_reducible assumption) | (with_reducible refine below_over ?_ _ _) | (with_reducible refine Lw.below_alloc ?_ _) | (with_reducible refine Below.drew ?_) | (with_reducible refine below_drewN ?_ _) | (with_reducible refine Below.setCell ?_ ?_ _) | go_size))), ?_, ?_⟩
    all_goals repeat' (first | (with_reducible refine blk_grow ?_) | (refine blk_new ?_; go_size; done) | (refine blk_new ?_; simp; omega) | (with_reducible refine blk_alloc ?_))
  case rest =>
    obtain ⟨a, b, rfl, rfl, rfl, hb, ha0, hb0⟩ := hcut
    obtain ⟨wo, rfl⟩ : ∃ wo, wo = wc := ⟨_, rfl⟩
    have HBo := Lib.hid (B0w.trans (hb.mono (by omega)))
    have hws := hb.size
    have HS2 := Lib.hid (HS1.out.up hb)
    have HA0 := Lib.hid ha0
    have HB0 := Lib.hid hb0
    have HR0 := Lib.hid (blk_up R0.out hb)
    have a0 := box_cell ha0 (i := 0) rfl
    have a1 := box_cell ha0 (i := 1) rfl
    have hla : a < wo.heap.size := (Array.getElem?_eq_some_iff.1 ha0).1
    have hlb : b < wo.heap.size := (Array.getElem?_eq_some_iff.1 hb0).1
    clear ha0 hb0 q0 q1 hb B0w
    go_wp2_with (first
      | (go_at_call 25; (with_reducible refine (CP.out _ HS2.out).mono ?_); rintro e w5 ⟨rfl, hb⟩; have HB5 := Lib.hid (HBo.out.trans (hb.mono HBo.out.size)); have HC5 := Lib.hid (blk_up HR0.out hb); have HY5 := Lib.hid (blk_up HB0.out hb); clear hb)
      | (go_at_call 76; (with_reducible refine (CM.out _).mono ?_); rintro e w6 ⟨rfl, hb⟩; have HB6 := Lib.hid (HB5.out.trans (hb.mono HB5.out.size)); have HC6 := Lib.hid (blk_up HC5.out hb); have c6 := box_cell HC6.out (i := 0) rfl; have c7 := box_cell HC6.out (i := 1) rfl; have f6 : w6.frozen? ⟨w.heap.size + 1, 0, none⟩ = false := blk_frozen HC6.out 0; have f7 : w6.frozen? ⟨w.heap.size + 1, 1, none⟩ = false := blk_frozen HC6.out 1; have y0 := box_cell (blk_up HY5.out hb) (i := 0) rfl; have y1 := box_cell (blk_up HY5.out hb) (i := 1) rfl; clear hb))
    have HC8 := Lib.hid (blk_set (blk_set HC6.out 0 (.int .i64 L1)) 1 (.int .u64 I3))
    have HB8 : Hid (Below w.heap.size w ((w6.setCell ⟨w.heap.size + 1, 0, none⟩ (.int .i64 L1)).setCell ⟨w.heap.size + 1, 1, none⟩ (.int .u64 I3))) := Lib.hid (by refine Below.setCell (Below.setCell HB6.out ?_ _) ?_ _ <;> simp)
    obtain ⟨w8, hw8⟩ : ∃ w8, (w6.setCell ⟨w.heap.size + 1, 0, none⟩ (.int .i64 L1)).setCell ⟨w.heap.size + 1, 1, none⟩ (.int .u64 I3) = w8 := ⟨_, rfl⟩
    rw [hw8] at HC8 HB8 ⊢
    have v0 := box_cell HC8.out (i := 0) (v := .int .i64 L1) (by simp)
    have v1 := box_cell HC8.out (i := 1) (v := .int .u64 I3) (by simp)
    refine bodyPost_ret (v := .tuple #[.agg #[.int .i64 L1, .int .u64 I3], .int .i64 KK, .bool KF]) (by simp [results, Tryz.results65, go_sem, v0, v1]) rfl ?_
    exact ⟨rfl, HB8.out⟩
end Go.Proofs.YtiblpdjehknbcaaGreat.Qnt
