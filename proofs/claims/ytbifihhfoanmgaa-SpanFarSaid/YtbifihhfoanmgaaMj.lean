/- Texts that the statements of this seat lean on, put together: StkRnd, SpnGat, StkCpy, StkCode, SpnCode, StkFed, StkLawA, SpnShown, SpnFar. -/
import Derived.Test.YtbifihhfoanmgaaMb
import Derived.Test.YtbifihhfoanmgaaMc
import Derived.Test.YtbifihhfoanmgaaMf
import Derived.Test.YtbifihhfoanmgaaMg
import Derived.Test.YtbifihhfoanmgaaMh
import Derived.Test.YtbifihhfoanmgaaMi
import Derived.Maps.AppendAt
import Derived.Deep.LoopGhost
import Derived.Deep.RegionHeld3
import Derived.Deep.DeepCutAuto
import Derived.Deep.QuietTactic
import Derived.BigQuiet
/- A region that draws its order, in a round of a range over a function: it may be walked as outside of one. By hand. -/
namespace Go.Proofs.Ytbifihhfoanmgaa.Stk
open Go Go.RowKit Lw
set_option linter.unusedVariables false
/-- None of the operations is a defer statement. -/
def noDefer (ops : Array Oper) : Bool := ops.toList.all (fun o => match o.op with
  | .defer _ => false
  | _ => true)
theorem noDefer_spec {ops : Array Oper} (h : noDefer ops = true) {i : Nat} {o : Oper} (hi : ops[i]? = some o) (c : Call) : o.op ≠ .defer c := fun e => by
  have h2 := List.all_eq_true.1 h o (by
    have h3 : ops.toList[i]? = some o := by rw [Array.getElem?_toList]; exact hi
    exact List.mem_of_getElem? h3)
  rw [e] at h2
  cases h2
theorem wpIn_of_wp {P : Program} {l n : Nat} {o : Oper} {a : Act} {w : World} {K K' : Act → World → Prop} {Q : Exit → Act → World → Prop} (hd : ∀ c, o.op ≠ .defer c) (hK : ∀ a w, K a w → K' a w) (h : o.wp P a w K Q) : o.wpIn (Fence.wide.inRound l) n P a w K' Q := by
  refine ⟨fun _ _ => trivial, ?_⟩
  rw [Oper.semAt_eq _ _ _ hd]
  unfold Oper.wp at h
  revert h
  cases (execOp a.eval o).run P w with
  | ok r w' =>
    cases r with
    | value v => exact hK _ _
    | skip => exact hK _ _
    | defer d => exact hK _ _
    | enter f args =>
      intro h
      refine ⟨fun g => (by cases g), CallsIn.inRound l (callsIn_wide.2 (Calls.mono h ?_))⟩
      intro e w'' he
      cases e with
      | returned v => exact hK _ _ he
      | panicked chain => exact he
      | outgrown => exact he
    | row row args =>
      intro h
      refine ⟨fun g => (by cases g), fun c cs _ => ?_⟩
      obtain ⟨v, w'', h1, h2⟩ := h c cs
      exact ⟨v, w'', hK _ _ h1, stepsIn_wide.2 h2⟩
    | _ => exact fun h => h.elim
  | halt s w' =>
    cases s with
    | panic v => exact id
    | _ => exact fun h => h.elim
theorem wpAnyIn_of_any {P : Program} {l n : Nat} {md : Region.Mode} {ops : Array Oper} {Q : Exit → Act → World → Prop} (hd : noDefer ops = true) (hQ : ¬ LetsOut Q) : ∀ (fuel : Nat) (listed : Array Bool) (a : Act) (w : World), wpAny P md ops Q fuel listed a w → wpAnyIn (Fence.wide.inRound l) n P md ops Q fuel listed a w
  | 0, _, _, _, h => h
  | fuel + 1, listed, a, w, h => ⟨h.1, fun i hi => by
    have h2 := h.2 i hi
    unfold wpOp at h2
    unfold wpOpIn
    revert h2
    cases ho : ops[i]? with
    | none => exact wpAnyIn_of_any hd hQ fuel _ a w
    | some o =>
      by_cases hw : Region.wanted o (yielded ops a.tmps) = true
      · simp only [hw, if_true]
        rintro (h3 | h3)
        · exact wpIn_of_wp (noDefer_spec hd ho) (fun a w => wpAnyIn_of_any hd hQ fuel _ a w) h3
        · exact absurd h3.2 hQ
      · simp only [hw]
        exact fun h => ⟨fun _ _ => trivial, wpAnyIn_of_any hd hQ fuel _ _ w h⟩⟩
/-- The beginning. -/
theorem region_round {P : Program} {l n id : Nat} {ops : Array Oper} {Q : Exit → Act → World → Prop} {S : World → Prop} {a : Act} {w : World} (hm : P.follows .mixedOrders = true) (hd : noDefer ops = true) (hQ : ¬ LetsOut Q) (hS : S w.drew) (h : S w.drew → wpAnyH P .any ops Q S ops.size (Array.replicate ops.size false) a w.drew) : (Code.region id ops true).wpIn (Fence.wide.inRound l) n P Q a w :=
  wpIn_region_any hm (wpAnyIn_of_any hd hQ _ _ _ _ (wpAny_of_held _ _ _ _ (h hS)))
/-- One value appended, in a region that draws its order: the row lies where it lay, or in a new block. -/
theorem appat_step {P : Program} {w : World} {ops : Array Oper} {o : Oper} {a : Act} {K : Act → World → Prop} {Q : Exit → Act → World → Prop} {E : Prop} (hgd : o.guard = none) (s x : Operand) (t : TypeId)
    (ho : o.op = .call { callee := .builtin .append, args := #[s, x], argTypes := #[t, t] })
    (base : Nat) (e : TypeId) (i : TypeInfo) (z : Value) (bytes : Nat) (ht : P.underlying t = some (.slice e)) (hi : P.info? e = some i) (hz : i.zero = some z) (hsize : i.size = 1) (hby : i.bytes = bytes) (hzs : z.cells.size = 1)
    (v : Value) (n : Nat) (xs : List Value) (hs : a.eval s = v) (hown : w.ownsRow base e 1 v n xs)
    (X : Value) (B : Nat) (hx : a.eval x = .slice (some ⟨B, 0, none⟩) 1 1) (hc : ∀ j u, ([X] : List Value)[j]? = some u → w.cell? ((⟨B, 0, none⟩ : Addr).add j) = some u) (hX : X.oneCell' = true) (h63 : n + 1 ≤ maxLen) (hbytes : (n + 1) * bytes ≤ 140737488355328) (hbase : base ≤ w.heap.size)
    (h : ∀ g cap w', w'.ownsRow base e 1 (.slice (some ⟨g, 0, none⟩) (n + 1) cap) (n + 1) (xs ++ [X]) → w.grownBy w' v.ownBlock → (v.ownBlock = some g ∨ g = w.heap.size) → K (a.put o.dst (.slice (some ⟨g, 0, none⟩) (n + 1) cap)) w') :
    if Region.wanted o (yielded ops a.tmps) = true then Oper.wp P o a w K Q else E := by
  rw [if_pos (by simp [Region.wanted, hgd])]
  obtain ⟨v', w', hr, h2, h3, h4, h5⟩ := run_append_own_at (P := P) w base t o.type e i z 1 bytes ht hi hz hsize hby hzs (by decide) v n xs hown ⟨B, 0, none⟩ 1 1 [X] rfl hc (by intro u hu; simp at hu; subst hu; exact hX) h63 hbytes hbase
  rcases h2.2 with ⟨h6, h7⟩ | ⟨g, cap, cur, rfl, h6⟩
  · simp at h7
  · unfold Oper.wp
    simp [execOp, ho, resolve, invoke, builtin, hs, hx, hr, Result.andThen]
    refine h g cap w' h2 h3 ?_
    rcases h5 with h8 | h8
    · exact .inl (show v.ownBlock = some g from h8.symm.trans rfl)
    · have h9 : some g = some w.heap.size := h8
      injection h9 with h9
      exact .inr h9
end Go.Proofs.Ytbifihhfoanmgaa.Stk
/- The code's walk over the pieces of a span, and what each round gathers. By hand. -/
namespace Go.Proofs.Ytbifihhfoanmgaa.Spn
open Go Go.RowKit Lw Grd Lin Con Shp Sk Exa Lev Stk Pcs Go.Shelf
set_option linter.unusedVariables false
set_option linter.unusedSimpArgs false
attribute [local go_sem] Oper.semAt_some
theorem sp64_info : (Try.prog.info? 2).map (fun i => (i.zero, i.size, i.bytes)) = some (some (.int .i64 0), 1, 8) := by kernel_rfl
theorem sp64s_u : Try.prog.underlying 32 = some (.slice 2) := by kernel_rfl
theorem told_any (p : Addr) (A : Option Addr) (n cap : Nat) (w : World) :
    Calls Try.prog 25 #[.pointer (some p), .slice A n cap] w fun e w' => e = .returned (.func (.func 39) #[] #[.pointer (some ⟨w.heap.size + 1, 0, none⟩), .pointer (some ⟨w.heap.size, 0, none⟩)]) ∧ w' = (w.alloc (.cells #[.pointer (some p)] 24)).alloc (.cells #[.slice A n cap] 60) := by
  go_enter Try.func25, Try.ntmps25
  go_wp2
  go_ret
  exact ⟨rfl, rfl⟩
/-- What a round is handed. -/
def encP (c : Cfg) (sts : List LS) (qs : List (Nat × Nat)) (x : Lof qs.length) : Array Value := #[.int .i64 (spV c sts ((qs[x.1]'x.2).1 : Int) ((qs[x.1]'x.2).2 : Int))]
theorem ints_at {qs : List (Nat × Nat)} {j : Nat} {q : Nat × Nat} (h : qs[j]? = some q) : (ints qs)[j]? = some ((q.1 : Int), (q.2 : Int)) := by
  unfold ints
  rw [List.getElem?_map, h]
  rfl
set_option maxRecDepth 100000 in
set_option maxHeartbeats 2000000 in
theorem told_iter (m : Nat) (hm : 1 ≤ m) (c : Cfg) (sts : List LS) (p : Addr) (Fs H : Nat → Prop) (l ba bs n cap : Nat) (A : Option Addr) (qs : List (Nat × Nat)) (hN : qs.length ≤ 1000) (J Jx : List (Lof qs.length) → World → Prop)
    (W : World) (hJ : AbidesFrom W.heap.size J)
    (hY : ∀ pre x W, J pre W → pre.length < qs.length → YieldAt Fence.wide (m - 1) Try.prog l (encP c sts qs x) W fun e W' => (e = .returned (.bool true) ∧ J (pre ++ [x]) W' ∧ Kept H W W') ∨ (e = .returned (.bool false) ∧ Jx (pre ++ [x]) W'))
    (hst : ST W p Fs c sts) (hF : ∀ k, Fs k → ¬ H k) (h1 : W.cell? ⟨ba, 0, none⟩ = some (.slice A n cap)) (hba : ¬ H ba) (h2 : W.cell? ⟨bs, 0, none⟩ = some (.pointer (some p))) (hbs : ¬ H bs)
    (h3 : (pcT A n cap (ints qs)).I W) (hpc : ∀ k, (pcT A n cap (ints qs)).F k → ¬ H k) (h0 : J [] W) :
    CallsIn Fence.wide m Try.prog 39 #[.func (.yield l) #[] #[], .pointer (some ⟨ba, 0, none⟩), .pointer (some ⟨bs, 0, none⟩)] W fun e W' => (∃ v, e = .returned v) ∧ ((∃ xs, (UpTo xs ∧ xs.length = qs.length) ∧ J xs W') ∨ (∃ pre, UpTo pre ∧ Jx pre W')) := by
  have hlen : qs.length = n := by
    have h4 := (pcI h3).len
    unfold ints at h4
    rw [List.length_map] at h4
    exact h4
  have HS := Lib.hid hst
  have HF := Lib.hid hF
  have HP := Lib.hid h3
  have HPC := Lib.hid hpc
  clear hst hF h3 hpc
  refine callsIn_of_wp Try.func39 rfl trivial ?_ rfl
  simp only [Try.ntmps39, List.size_toArray, List.length_cons, List.length_nil, Nat.reduceAdd, Nat.reduceSub, Array.replicate_succ, Array.replicate_zero, List.push_toArray, List.append_toArray, List.nil_append, List.cons_append]
  gi_wp2
  gi_loopw [10] (fun i wr => ∃ (j : Nat) (pre : List (Lof qs.length)), j ≤ n ∧ i = .int .i64 j ∧ UpTo pre ∧ pre.length = j ∧ J pre wr ∧ Kept H W wr)
    (fun i _ => n - (intOf i).toNat)
  case atStart => exact ⟨0, [], Nat.zero_le _, rfl, UpTo.nil _, rfl, h0, Kept.refl _ _⟩
  case round =>
    obtain ⟨j, pre, hj, rfl, hup, hpl, hJs, hkp⟩ := hrel
    by_cases hlt : j < n
    · have hlt2 : j < qs.length := by omega
      obtain ⟨q, hq⟩ : ∃ q, qs[j]? = some q := ⟨_, List.getElem?_eq_getElem hlt2⟩
      have hq2 : qs[j]'hlt2 = q := by
        have h9 := List.getElem?_eq_getElem hlt2
        rw [hq] at h9
        exact (Option.some.inj h9).symm
      have hP2 : (pcT A n cap (ints qs)).I wr := (pcT A n cap (ints qs)).keep W wr H HP.out hkp HPC.out
      obtain ⟨a, ga, oa, rfl, had, cc1, cc2, ⟨b0, b1⟩, b2, b3⟩ := (pcI hP2).at (ints_at hq)
      have hST2 := Lib.hid (stI ((stT p Fs c sts).keep W wr H HS.out hkp HF.out))
      have d1 := hkp.cell h1 hba
      have d2 := hkp.cell h2 hbs
      have al := Lw.below_alloc (Below.refl _ wr) (.cells #[.int .i64 (q.1 : Int), .int .u64 (q.2 : Int)] 91)
      have hJ1 := hJ pre wr _ none hJs (grown_of al) (fun r e => by cases e)
      have d3 := cell_up d2 al
      have hS3 := Lib.hid (hST2.out.up al)
      have HKP := Lib.hid (hkp.then al)
      have B0 := Lib.hid b0
      have B1 := Lib.hid b1
      have B2 := Lib.hid b2
      have B3 := Lib.hid b3
      have HJ1 := Lib.hid hJ1
      have AL := Lib.hid al
      clear b0 b1 b2 b3 hP2 hkp hJs hJ1 al
      gi_wp2_with (refine ⟨trivial, ?_⟩; gi_at_call 40; refine (callsIn_wide.2 (cs_point p Fs c sts (q.1 : Int) (q.2 : Int) _ hS3.out B0.out B1.out B2.out B3.out)).mono ?_; rintro e w2 ⟨rfl, hb2⟩; have hk2 := Lib.hid (HKP.out.then hb2); have hJ2 := hJ pre _ w2 none HJ1.out (grown_of hb2) (fun r e => by cases e); obtain ⟨fn, tmps, assign, body, hy, hR⟩ := hY pre ⟨j, hlt2⟩ w2 hJ2 (by omega); simp only [encP, hq2] at hy)
      refine hR.mono ?_
      rintro e W3 (⟨rfl, hJ3, hk3⟩ | ⟨rfl, hJx3⟩)
      · gi_wp2
        go_roundw
        case rel => exact ⟨j + 1, pre ++ [⟨j, hlt2⟩], by omega, by simp, UpTo.snoc.2 ⟨hup, hpl.symm⟩, by simp [hpl], hJ3, hk2.out.trans hk3 (fun _ _ h => h)⟩
        case measure => simp [intOf]; omega
      · gi_wp2
        refine bodyPost_ret (results_none rfl _ _ _) rfl ?_
        exact ⟨⟨_, rfl⟩, .inr ⟨pre ++ [⟨j, hlt2⟩], UpTo.snoc.2 ⟨hup, hpl.symm⟩, hJx3⟩⟩
    · obtain rfl : j = n := by omega
      gi_wp2
      go_end0
      exact ⟨⟨_, rfl⟩, .inl ⟨pre, ⟨hup, by omega⟩, hJs⟩⟩
set_option maxRecDepth 100000 in
set_option maxHeartbeats 2000000 in
theorem gather_any (bp B0 : Nat) (F0 : Nat → Prop) (w0 w : World) (hdr : Value) (vals : List Value) (n : Int) (us ts : List Thing) (h : HoldC F0 w0 w (us ++ boxT bp 32 #[hdr] :: ownT B0 2 hdr vals :: ts)) (hl : vals.length ≤ 1000) (hB : B0 ≤ w.heap.size) :
    Calls Try.prog 24 #[.int .i64 n, .pointer (some ⟨bp, 0, none⟩)] w fun e w' => ∃ hdr', e = .returned (.tuple #[]) ∧ HoldC F0 w0 w' (us ++ boxT bp 32 #[hdr'] :: ownT B0 2 hdr' (vals ++ [.int .i64 n]) :: ts) ∧ Kept (fun k => k = bp ∨ B0 ≤ k) w w' ∧ KeepsOthers w w' := by
  have hbx : Boxed w bp 32 hdr := h.i (t := boxT bp 32 #[hdr]) (by simp)
  have c0 := hbx.cell
  have z0 := hbx.frozen
  have HH := Lib.hid h
  have hown : (ownT B0 2 hdr vals).I w := h.i (t := ownT B0 2 hdr vals) (by simp)
  have HO := Lib.hid hown
  have HA := Lib.hid (h.up (Lw.below_alloc (Below.refl _ w) (.cells #[.int .i64 n] 2)))
  have hbl : bp < w.heap.size := box_lt (h.i (t := boxT bp 32 #[hdr]) (by simp))
  obtain ⟨i0, hi, hi0, hi1, hi2⟩ := info_parts sp64_info
  have HA2 : Hid (HoldC F0 w0 (w.alloc (.cells #[.int .i64 n] 2)) ((us ++ [boxT bp 32 #[hdr]]) ++ ownT B0 2 hdr vals :: ts)) := Lib.hid (by simpa using HA.out)
  clear h hown hbx
  go_enter Try.func24, Try.ntmps24
  go_wp2_with (at_builtin; (refine app_val rfl _ _ 32 rfl B0 2 i0 (.int .i64 0) 8 sp64s_u hi hi0 hi1 hi2 rfl hdr vals.length vals rfl (HA.out.i (t := ownT B0 2 hdr vals) (by simp)) (.int .i64 n) w.heap.size rfl (cell_one_new _ _ _) rfl (by unfold maxLen; omega) (by omega) (by simp; omega) ?_); intro g cap w7 own7 grow7 hat7 hlt7; have H7 := Lib.hid (HoldC.app HA2.out own7 grow7 hat7); have b7 : Boxed w7 bp 32 hdr := H7.out.i (t := boxT bp 32 #[hdr]) (by simp); have c7 := b7.cell; have z7 := b7.frozen)
  go_returns
  have H8 : HoldC F0 w0 w7 (us ++ boxT bp 32 #[hdr] :: ownT B0 2 (.slice (some ⟨g, 0, none⟩) (vals.length + 1) cap) (vals ++ [.int .i64 n]) :: ts) := by simpa using H7.out
  have hge := own_ge HO.out
  refine ⟨_, rfl, holdc_store H8, ?_, ?_⟩
  · exact (Kept.grown ((Kept.refl (fun k => k = bp ∨ B0 ≤ k) w).alloc _) grow7 (fun q e => .inl (.inr (hge q e)))).set (.inl (.inl rfl)) 0 _
  · have k2 := KeepsOthers.alloc w (.cells #[.int .i64 n] 2)
    have s6 := HA.out.i (t := ownT B0 2 hdr vals) (by simp)
    have k3 : KeepsOthers (w.alloc (.cells #[.int .i64 n] 2)) w7 := KeepsOthers.of_grownBy grow7 (fun j o ej ho => by
      obtain ⟨o', h1, h2⟩ := cel_own s6 j ej
      rw [ho] at h1
      injection h1 with h1
      rw [h1]
      exact h2)
    exact (k2.trans k3).trans (KeepsOthers.setCell w7 ⟨bp, 0, none⟩ _)
end Go.Proofs.Ytbifihhfoanmgaa.Spn
/- The code's Copy of a stack. Printed by wip/gen/stk15.py. -/
namespace Go.Proofs.Ytbifihhfoanmgaa.Stk
open Go Go.RowKit Lw Grd Lin Con Shp Sk Exa Lev Go.Shelf
set_option linter.unusedVariables false
set_option linter.unusedSimpArgs false
attribute [local go_sem] Oper.semAt_some
def encV (vals : List Value) (x : Lof vals.length) : Array Value := #[vals[x.1]'x.2]
/-- New levels as they came. -/
structure NRow (c : Cfg) (sts : List LS) (N : Nat) (pre : List (Lof N)) (vs : List Value) (ts : List Thing) : Prop where
  lv : vs.length = pre.length
  lt : ts.length = pre.length
  each : ∀ (j : Nat) (x : Lof N), pre[j]? = some x → ∃ st v Q, sts[x.1]? = some st ∧ vs[j]? = some v ∧ ts[j]? = some (elvT v Q c (x.1 : Int) st)
theorem NRow.nil (c : Cfg) (sts : List LS) (N : Nat) : NRow c sts N [] [] [] := ⟨rfl, rfl, fun j x h => by simp at h⟩
theorem NRow.snoc {c : Cfg} {sts : List LS} {N : Nat} {pre : List (Lof N)} {vs : List Value} {ts : List Thing} (h : NRow c sts N pre vs ts) (x : Lof N) (st : LS) (v : Value) (Q : Nat → Prop) (hs : sts[x.1]? = some st) : NRow c sts N (pre ++ [x]) (vs ++ [v]) (ts ++ [elvT v Q c (x.1 : Int) st]) := by
  refine ⟨by simp [h.lv], by simp [h.lt], fun j y hy => ?_⟩
  by_cases hj : j < pre.length
  · rw [List.getElem?_append_left hj] at hy
    rw [List.getElem?_append_left (by rw [h.lv]; exact hj), List.getElem?_append_left (by rw [h.lt]; exact hj)]
    exact h.each j y hy
  · rw [List.getElem?_append_right (by omega)] at hy
    rw [List.getElem?_append_right (by rw [h.lv]; omega), List.getElem?_append_right (by rw [h.lt]; omega), h.lv, h.lt]
    have hj2 : j - pre.length = 0 := by
      have := (List.getElem?_eq_some_iff.1 hy).1
      simp at this
      omega
    rw [hj2] at hy ⊢
    simp at hy
    subst hy
    exact ⟨st, v, Q, hs, rfl, rfl⟩
theorem NRow.row {c : Cfg} {sts : List LS} {N : Nat} {pre : List (Lof N)} {vs : List Value} {ts : List Thing} (h : NRow c sts N pre vs ts) (hup : UpTo pre) (hl : pre.length = sts.length) : LRow elvT c vs ts sts := by
  refine ⟨h.lv.trans hl, h.lt.trans hl, fun j st hj => ?_⟩
  have hj2 := (List.getElem?_eq_some_iff.1 hj).1
  obtain ⟨x, hx⟩ : ∃ x, pre[j]? = some x := ⟨_, List.getElem?_eq_getElem (by omega)⟩
  have hx2 : x.1 = j := by
    have h3 : (pre.map (fun x => x.1))[j]? = some x.1 := by rw [List.getElem?_map, hx]; rfl
    rw [hup, List.getElem?_range (by omega)] at h3
    injection h3 with h3
    exact h3.symm
  obtain ⟨st2, v, Q, e1, e2, e3⟩ := h.each j x hx
  rw [hx2, hj] at e1
  injection e1 with e1
  subst e1
  rw [hx2] at e3
  exact ⟨v, Q, e2, e3⟩
end Go.Proofs.Ytbifihhfoanmgaa.Stk
/- The code's stack: its Update; with New, Copy, and what it tells, all contracts of its calls. Printed by wip/gen/stk14.py. -/
namespace Go.Proofs.Ytbifihhfoanmgaa.Stk
open Go Go.RowKit Lw Grd Lin Con Shp Sk Exa Lev Go.Shelf
set_option linter.unusedVariables false
set_option linter.unusedSimpArgs false
theorem cs_upd (p : Addr) (F : Nat → Prop) (c : Cfg) (sts : List LS) (k d : Int) (w : World) (h : ST w p F c sts) (k0 : 0 ≤ k) (k1 : k ≤ 18446744073709551615) (d0 : -9223372036854775808 ≤ d) (d1 : d ≤ 9223372036854775807) :
    Calls Try.prog 9 #[.pointer (some p), .int .u64 k, .int .i64 d] w fun e w' => e = .returned (.int .i64 (sucode c sts k d)) ∧ ∃ F', ST w' p F' c (sures c sts k d) ∧ Kept F w w' ∧ (∀ q, F' q → F q ∨ w.heap.size ≤ q) := by
  have HS := Lib.hid h
  obtain ⟨hr, hc, hl, b, B0, hdr, vals, ts, rfl, hrow, hI, rfl⟩ := h
  have HH := Lib.hid (st_hold hrow hI)
  have HO := Lib.hid hc
  have HR := Lib.hid hr
  have HL := Lib.hid hl
  have HROW := Lib.hid hrow
  have K0 := Lib.hid k0
  have K1 := Lib.hid k1
  have D0 := Lib.hid d0
  have D1 := Lib.hid d1
  have HB := Lib.hid (HH.out.push (boxT w.heap.size 2 #[.int .i64 d]) (Lw.below_alloc (Below.refl _ _) _) (heap_alloc_new w _) (fun k hk => Nat.le_of_eq hk.symm) (cel_box (heap_alloc_new w _)))
  have c0 := box_cell (HB.out.i (t := skB b c hdr) (by simp)) (i := 0) rfl
  have c1 := box_cell (HB.out.i (t := skB b c hdr) (by simp)) (i := 1) rfl
  have c2 := box_cell (HB.out.i (t := skB b c hdr) (by simp)) (i := 2) rfl
  have c3 := box_cell (HB.out.i (t := skB b c hdr) (by simp)) (i := 3) rfl
  have c4 := box_cell (HB.out.i (t := skB b c hdr) (by simp)) (i := 4) rfl
  by_cases hk : keys c 0 ≤ k
  · have e1 : sucode c sts k d = 2 := if_pos hk
    have e2 : sures c sts k d = sts := by unfold sures; rw [e1]; exact if_neg (by decide)
    rw [e1, e2]
    clear e1 e2 hI hrow hl hr hc k0 k1 d0 d1
    go_enter Try.func9, Try.ntmps9
    go_wp2_with (go_at_call 17; (with_reducible refine (keys_any c 0 _ HO.out (by omega) (by omega)).mono ?_); rintro e w1 ⟨rfl, hb⟩)
    go_ret
    have hb3 : Below w.heap.size w w1 := (Lw.below_alloc (Below.refl _ w) (.cells #[.int .i64 d] 2)).trans (hb.mono (by simp))
    exact ⟨rfl, _, HS.out.up hb3, Kept.of_below hb3, fun q hq => .inl hq⟩
  · have hk2 : k < keys c 0 := by omega
    have HK := Lib.hid hk2
    have hm0 : ¬ (c.md = 2 ∧ d < 0) ∨ ers c k d 0 sts = 3 := by
      by_cases hm : c.md = 2 ∧ d < 0
      · obtain ⟨st, v, Q, e1, e2, e3⟩ := hrow.at (j := 0) (by omega)
        exact .inr (ers_mode hr k0 hk2 hm e1 (show ELV w v Q c ((0 : Nat) : Int) st from HH.out.i (t := elvT v Q c ((0 : Nat) : Int) st) (List.mem_cons_of_mem _ (List.mem_cons_of_mem _ (List.mem_of_getElem? e3)))))
      · exact .inl hm
    have e1 : sucode c sts k d = ers c k d 0 sts := by
      unfold sucode
      rw [if_neg hk]
      by_cases hm : c.md = 2 ∧ d < 0
      · rw [if_pos hm]
        exact (hm0.resolve_left (fun g => g hm)).symm
      · rw [if_neg hm]
    clear hm0
    by_cases hz : ers c k d 0 sts = 0
    · have e2 : sures c sts k d = rss c k d 0 sts := by unfold sures; rw [e1, if_pos hz]
      rw [e1, e2, hz]
      have HZ := Lib.hid hz
      clear e1 e2 hI hrow hl hr hc k0 k1 d0 d1 hz hk2
      go_enter Try.func9, Try.ntmps9
      go_wp2_with (first
        | (go_at_call 17; (with_reducible refine (keys_any c 0 _ HO.out (by omega) (by omega)).mono ?_); rintro e w1 ⟨rfl, hb⟩; have HV1 := Lib.hid (HB.out.up hb); clear hb)
        | (go_at_call 19; (with_reducible refine (sabove_any ⟨b, 0, none⟩ k _).mono ?_); rintro e w2 ⟨rfl, rfl⟩)
        | (go_at_call 18; (with_reducible refine (chk_first c HR.out HO.out k d K0.out K1.out HK.out D0.out D1.out sts HL.out w.heap.size b B0 hdr vals ts HROW.out _ _ _ HV1.out).mono ?_); rintro e w3 ⟨rfl, hv3⟩; have HV3 := Lib.hid hv3; clear hv3; rw [HZ.out])
        | (go_at_call 18; (with_reducible refine (upd_first c HR.out HO.out k d K0.out K1.out HK.out D0.out D1.out sts HL.out HZ.out w.heap.size b B0 hdr vals ts HROW.out _ _ _ HV3.out).mono ?_); rintro e w4 ⟨rfl, ts4, hrow4, hv4⟩; have HV4 := Lib.hid hv4; have HR4 := Lib.hid hrow4; clear hv4 hrow4))
      go_ret
      obtain ⟨s1, s2, s3⟩ := st_of HR.out HO.out (by rw [rss_len]; exact HL.out) HR4.out HV4.out.drop
      exact ⟨rfl, _, s1, s2, s3⟩
    · have e2 : sures c sts k d = sts := by unfold sures; rw [e1]; exact if_neg hz
      rw [e1, e2]
      obtain ⟨E, hE⟩ : ∃ E, ers c k d 0 sts = E := ⟨_, rfl⟩
      have HE := Lib.hid hE
      rw [hE] at hz ⊢
      clear e1 e2 hI hrow hl hr hc k0 k1 d0 d1 hE hk2
      go_enter Try.func9, Try.ntmps9
      go_wp2_with (first
        | (go_at_call 17; (with_reducible refine (keys_any c 0 _ HO.out (by omega) (by omega)).mono ?_); rintro e w1 ⟨rfl, hb⟩; have HV1 := Lib.hid (HB.out.up hb); clear hb)
        | (go_at_call 19; (with_reducible refine (sabove_any ⟨b, 0, none⟩ k _).mono ?_); rintro e w2 ⟨rfl, rfl⟩)
        | (go_at_call 18; (with_reducible refine (chk_first c HR.out HO.out k d K0.out K1.out HK.out D0.out D1.out sts HL.out w.heap.size b B0 hdr vals ts HROW.out _ _ _ HV1.out).mono ?_); rintro e w3 ⟨rfl, hv3⟩; have HV3 := Lib.hid hv3; clear hv3; rw [HE.out]))
      go_ret
      obtain ⟨s1, s2, s3⟩ := st_of HR.out HO.out HL.out HROW.out HV3.out.drop
      exact ⟨rfl, _, s1, s2, s3⟩
end Go.Proofs.Ytbifihhfoanmgaa.Stk
/- The code's Parts, Range and Rank. By hand. -/
namespace Go.Proofs.Ytbifihhfoanmgaa.Spn
open Go Go.RowKit Lw Grd Lin Con Shp Sk Exa Lev Stk Pcs Go.Shelf
set_option linter.unusedVariables false
set_option linter.unusedSimpArgs false
attribute [local go_sem] Oper.semAt_some
theorem fld_bt (c : Cfg) (w : World) : (Instr.field 30 (.agg #[.int .i64 c.bt, .int .i64 c.rw, .int .i64 c.wd, .int .i64 c.md, .int .u64 c.sd]) 0).run Try.prog w = .ok (.int .i64 c.bt) w := by kernel_rfl
theorem ptc_ok {c : Cfg} (hr : IsRight c) {lo hi : Int} (hi0 : 0 ≤ hi) : okC c.bt lo hi = decide (ptC2 c lo hi = 0) := by
  have hb := hr.1
  have hb2 := hr.2.1
  have e0 : keys c 0 = 2 ^ (c.bt - 0).toNat := keys_yes hr (by omega) (by omega)
  have e9 : (c.bt - 0).toNat = c.bt.toNat := by omega
  rw [e9] at e0
  have e1 : p2 c.bt.toNat = keys c 0 := by rw [e0]; unfold p2; simp
  unfold okC ptC2
  rw [e1]
  refine decide_eq_decide.2 ?_
  by_cases h1 : hi < lo
  · rw [if_pos h1]
    constructor
    · rintro ⟨-, -, h2, -⟩
      omega
    · intro h; cases h
  · rw [if_neg h1]
    by_cases h2 : keys c 0 ≤ hi
    · rw [if_pos h2]
      constructor
      · rintro ⟨-, -, -, h3⟩
        omega
      · intro h; cases h
    · rw [if_neg h2]
      exact ⟨fun _ => rfl, fun _ => ⟨by omega, by omega, by omega, by omega⟩⟩
set_option maxRecDepth 100000 in
set_option maxHeartbeats 2000000 in
theorem sp_parts_1 (p : Addr) (F : Nat → Prop) (c : Cfg) (sts : List LS) (lo hi : Int) (w : World) (h : ST w p F c sts) (h1 : hi < lo) :
    Calls Try.prog 11 #[.pointer (some p), .int .u64 lo, .int .u64 hi] w fun e w' => ∃ (A : Option Addr) (n cap : Nat), e = .returned (.tuple #[.slice A n cap, .int .i64 (ptC2 c lo hi)]) ∧ Rd .i64 w' A (ptL c (fun L i => spV c sts (L : Int) i) lo hi) ∧ (ptL c (fun L i => spV c sts (L : Int) i) lo hi).length = n ∧ n ≤ cap ∧ cap ≤ maxLen ∧ Below w.heap.size w w' := by
  have e1 : ptC2 c lo hi = 1 := by unfold ptC2; rw [if_pos h1]
  have e2 : ptL c (fun L i => spV c sts (L : Int) i) lo hi = [] := by unfold ptL; rw [if_neg (by rw [e1]; decide)]
  rw [e1, e2]
  clear h e1 e2
  go_enter Try.func11, Try.ntmps11
  go_wp2
  refine bodyPost_ret (v := .tuple #[.slice none 0 0, .int .i64 1]) (by simp [results, Try.results11, go_sem]) rfl ?_
  exact ⟨none, 0, 0, rfl, fun j v hv => by simp at hv, rfl, Nat.le_refl _, by decide, Below.refl _ _⟩
set_option maxRecDepth 100000 in
set_option maxHeartbeats 2000000 in
theorem sp_parts_2 (p : Addr) (F : Nat → Prop) (c : Cfg) (sts : List LS) (lo hi : Int) (w : World) (h : ST w p F c sts) (lo0 : 0 ≤ lo) (lo1 : lo ≤ 18446744073709551615) (hi0 : 0 ≤ hi) (hi1 : hi ≤ 18446744073709551615) (h1 : ¬ hi < lo) (h2 : keys c 0 ≤ hi) :
    Calls Try.prog 11 #[.pointer (some p), .int .u64 lo, .int .u64 hi] w fun e w' => ∃ (A : Option Addr) (n cap : Nat), e = .returned (.tuple #[.slice A n cap, .int .i64 (ptC2 c lo hi)]) ∧ Rd .i64 w' A (ptL c (fun L i => spV c sts (L : Int) i) lo hi) ∧ (ptL c (fun L i => spV c sts (L : Int) i) lo hi).length = n ∧ n ≤ cap ∧ cap ≤ maxLen ∧ Below w.heap.size w w' := by
  have e1 : ptC2 c lo hi = 2 := by unfold ptC2; rw [if_neg h1, if_pos h2]
  have e2 : ptL c (fun L i => spV c sts (L : Int) i) lo hi = [] := by unfold ptL; rw [if_neg (by rw [e1]; decide)]
  have hok : okC c.bt lo hi = false := by rw [ptc_ok h.1 hi0, e1]; rfl
  have hb0 := h.1.1
  have hb1 := h.1.2.1
  rw [e1, e2]
  have HS := Lib.hid h
  have CC := Lib.hid (fun w => ccover_any c.bt lo hi w (by omega) (by omega) lo0 lo1 hi0 hi1)
  have f1 : decide (hi < lo) = false := decide_eq_false h1
  have hfd := fld_bt c
  clear h e1 e2 lo0 lo1 hi0 hi1 h2 hb0 hb1
  go_enter Try.func11, Try.ntmps11
  go_wp2_with (first
    | (go_at_call 23; (with_reducible refine (cs_config p F c sts _ HS.out).mono ?_); rintro e w1 ⟨rfl, hbe1⟩)
    | (go_at_call 22; (with_reducible refine (CC.out _).mono ?_); rintro e w2 ⟨A, n, cap, l, rfl, hI, hF, hbe2, -, -⟩; rw [hok]))
  refine bodyPost_ret (v := .tuple #[.slice none 0 0, .int .i64 2]) (by simp [results, Try.results11, go_sem]) rfl ?_
  exact ⟨none, 0, 0, rfl, fun j v hv => by simp at hv, rfl, Nat.le_refl _, by decide, hbe1.trans (hbe2.mono hbe1.size)⟩
theorem own_any16 {w : World} {B : Nat} {e : TypeId} {hdr : Value} {vals : List Value} (h : (ownT B e hdr vals).I w) : ∃ (A : Option Addr) (cap : Nat), hdr = .slice A vals.length cap ∧ vals.length ≤ cap ∧ cap ≤ maxLen ∧ ∀ (j : Nat) (v : Value), vals[j]? = some v → ∃ a, A = some a ∧ w.cell? (a.add j) = some v := by
  have h1 : w.ownsRow B e 1 hdr vals.length vals := h
  rcases h1.2 with h0 | ⟨g, cap, cur, rfl, h2, h3, h4, h5, h6⟩
  · have h2 := h0.2
    have h3 : vals = [] := List.eq_nil_of_length_eq_zero (by omega)
    subst h3
    exact ⟨none, 0, h0.1, Nat.le_refl _, by decide, fun j v hj => by simp at hj⟩
  · exact ⟨some ⟨g, 0, none⟩, cap, rfl, h4, by assumption, fun j v hj => ⟨_, rfl, h1.cells (g := g) rfl j v hj⟩⟩
theorem kept_put {m : Nat} {F : Nat → Prop} (hm : ∀ k, m ≤ k → F k) (W : World) (l : Nat) (o o' : Obj) (hl : m ≤ l) (h1 : W.heap[l]? = some o) (h2 : o.isCells = false) (h3 : o.isWalk = false) : Kept F W (W.putObj l o') :=
  ⟨rfl, rfl, rfl, by simp, fun k hk hF => World.putObj_heap_other (fun e => hF (hm k (by omega)))⟩
/-- What was gathered. -/
def gotV (c : Cfg) (sts : List LS) (l : List (Nat × Nat)) (pre : List (Lof l.length)) : List Value := pre.map (fun x => .int .i64 (spV c sts ((l[x.1]'x.2).1 : Int) ((l[x.1]'x.2).2 : Int)))
theorem got_all {c : Cfg} {sts : List LS} {l : List (Nat × Nat)} {xs : List (Lof l.length)} (hup : UpTo xs) (hl : xs.length = l.length) : gotV c sts l xs = (l.map (fun p => spV c sts ((p.1 : Nat) : Int) ((p.2 : Nat) : Int))).map (Value.int .i64) := by
  refine List.ext_getElem? (fun i => ?_)
  unfold gotV
  rw [List.getElem?_map, List.getElem?_map, List.getElem?_map]
  by_cases hi : i < xs.length
  · obtain ⟨x, hx⟩ : ∃ x, xs[i]? = some x := ⟨_, List.getElem?_eq_getElem hi⟩
    have h3 : (xs.map (fun x => x.1))[i]? = some x.1 := by rw [List.getElem?_map, hx]; rfl
    rw [hup, List.getElem?_range (by omega)] at h3
    injection h3 with h3
    have h4 : l[i]? = some (l[x.1]'x.2) := by rw [h3]; exact List.getElem?_eq_getElem x.2
    rw [hx, h4]
    rfl
  · rw [List.getElem?_eq_none (by omega), List.getElem?_eq_none (by omega)]
    rfl
set_option maxRecDepth 100000 in
set_option maxHeartbeats 2000000 in
theorem sp_parts_3 (p : Addr) (F : Nat → Prop) (c : Cfg) (sts : List LS) (lo hi : Int) (w : World) (h : ST w p F c sts) (lo0 : 0 ≤ lo) (lo1 : lo ≤ 18446744073709551615) (hi0 : 0 ≤ hi) (hi1 : hi ≤ 18446744073709551615) (h1 : ¬ hi < lo) (h2 : ¬ keys c 0 ≤ hi) :
    Calls Try.prog 11 #[.pointer (some p), .int .u64 lo, .int .u64 hi] w fun e w' => ∃ (A : Option Addr) (n cap : Nat), e = .returned (.tuple #[.slice A n cap, .int .i64 (ptC2 c lo hi)]) ∧ Rd .i64 w' A (ptL c (fun L i => spV c sts (L : Int) i) lo hi) ∧ (ptL c (fun L i => spV c sts (L : Int) i) lo hi).length = n ∧ n ≤ cap ∧ cap ≤ maxLen ∧ Below w.heap.size w w' := by
  have e1 : ptC2 c lo hi = 0 := by unfold ptC2; rw [if_neg h1, if_neg h2]
  have e2 : ptL c (fun L i => spV c sts (L : Int) i) lo hi = parts c (fun L i => spV c sts (L : Int) i) lo hi := by unfold ptL; rw [if_pos e1]
  have e3 := parts_len16 h.1 (fun L i => spV c sts (L : Int) i) lo hi lo0
  have hok : okC c.bt lo hi = true := by rw [ptc_ok h.1 hi0, e1]; rfl
  have hb0 := h.1.1
  have hb1 := h.1.2.1
  rw [e2] at e3
  rw [e1, e2]
  have HS := Lib.hid h
  have HLEN := Lib.hid e3
  have CC := Lib.hid (fun w => ccover_any c.bt lo hi w (by omega) (by omega) lo0 lo1 hi0 hi1)
  have f1 : decide (hi < lo) = false := decide_eq_false h1
  have hfd := fld_bt c
  clear h e1 e2 e3 lo0 lo1 hi0 hi1 h2 hb0 hb1
  refine (callsIn_wide (n := 9)).1 ?_
  refine callsIn_of_wp_marks Try.func11 rfl trivial ?_ rfl
  simp only [Try.ntmps11, List.size_toArray, List.length_cons, List.length_nil, Nat.reduceAdd, Nat.reduceSub, Array.replicate_succ, Array.replicate_zero, List.push_toArray, List.append_toArray, List.nil_append, List.cons_append]
  gi_wp2_with (first
    | (refine ⟨trivial, ?_⟩; gi_at_call 23; refine (callsIn_wide.2 (cs_config p F c sts _ HS.out)).mono ?_; rintro e w1 ⟨rfl, hbe1⟩)
    | (refine ⟨trivial, ?_⟩; gi_at_call 22; refine (callsIn_wide.2 (CC.out _)).mono ?_; rintro e w2 ⟨A, n, cap, l, rfl, hI, hF, hbe2, hcov, -⟩; rw [hok])
    | (refine ⟨trivial, ?_⟩; gi_at_call 25; refine (callsIn_wide.2 (told_any _ _ _ _ _)).mono ?_; rintro e w3 ⟨rfl, rfl⟩))
  have hpl : l.length ≤ 1000 ∧ parts c (fun L i => spV c sts (L : Int) i) lo hi = l.map (fun q => spV c sts ((q.1 : Nat) : Int) ((q.2 : Nat) : Int)) := by
    have h5 := HLEN.out
    unfold parts at h5 ⊢
    rw [covL_eq (hcov hok)] at h5 ⊢
    rw [List.length_map] at h5
    exact ⟨h5, rfl⟩
  obtain ⟨hl1, hl2⟩ := hpl
  have HL2 := Lib.hid hl2
  have HI := Lib.hid hI
  have hFs : ∀ k, F k → k < w.heap.size := fun k hk => (stT p F c sts).lt w HS.out k hk
  have hPc : ∀ k, (pcT A n cap (ints l)).F k → k < w2.heap.size := fun k hk => (pcT A n cap (ints l)).lt w2 HI.out k hk
  have hsz1 := hbe1.size
  have hsz2 := hbe2.size
  have W1 := Lib.hid (hbe1.trans (hbe2.mono hbe1.size))
  clear hI hF hcov hl2
  have P0 : HoldC (fun _ => False) w2 w2 [] := HoldC.start0 (Below.refl _ w2)
  have P1 := P0.push (ownT (w2.heap.size + 4) 2 (.slice none 0 0) []) (Below.refl _ _) (own_nil _ _ _) (fun k hk => own_nilF _ _ hk) (cel_own (own_nil _ _ _))
  have hx1 := heap_alloc_new w2 (.cells #[.slice none 0 0] 32)
  have P2 := P1.push (boxT w2.heap.size 32 #[.slice none 0 0]) (Lw.below_alloc (Below.refl _ _) _) hx1 (fun k hk => Nat.le_of_eq hk.symm) (cel_box hx1)
  have hx2 := heap_alloc_new (w2.alloc (.cells #[.slice none 0 0] 32)) (.cells #[.func (.func 24) #[] #[.pointer (some ⟨w2.heap.size, 0, none⟩)]] 64)
  have hx3 := heap_alloc_new ((w2.alloc (.cells #[.slice none 0 0] 32)).alloc (.cells #[.func (.func 24) #[] #[.pointer (some ⟨w2.heap.size, 0, none⟩)]] 64)) (.cells #[.pointer (some p)] 24)
  have hx4 := heap_alloc_new (((w2.alloc (.cells #[.slice none 0 0] 32)).alloc (.cells #[.func (.func 24) #[] #[.pointer (some ⟨w2.heap.size, 0, none⟩)]] 64)).alloc (.cells #[.pointer (some p)] 24)) (.cells #[.slice A n cap] 60)
  simp only [World.size_alloc] at hx2 hx3 hx4
  have P3 := P2.push (boxT (w2.heap.size + 1) 64 #[.func (.func 24) #[] #[.pointer (some ⟨w2.heap.size, 0, none⟩)]]) (Lw.below_alloc (Below.refl _ _) _) hx2 (fun k hk => Nat.le_of_eq (by simp; exact hk.symm)) (cel_box hx2)
  have P4 := P3.push (boxT (w2.heap.size + 1 + 1) 24 #[.pointer (some p)]) (Lw.below_alloc (Below.refl _ _) _) hx3 (fun k hk => Nat.le_of_eq (by simp; exact hk.symm)) (cel_box hx3)
  have P5 := P4.push (boxT (w2.heap.size + 1 + 1 + 1) 60 #[.slice A n cap]) (Lw.below_alloc (Below.refl _ _) _) hx4 (fun k hk => Nat.le_of_eq (by simp; exact hk.symm)) (cel_box hx4)
  clear P0 P1 P2 P3 P4 hx1 hx2 hx3 hx4
  have BB : Below w2.heap.size w2 ((((w2.alloc (.cells #[.slice none 0 0] 32)).alloc (.cells #[.func (.func 24) #[] #[.pointer (some ⟨w2.heap.size, 0, none⟩)]] 64)).alloc (.cells #[.pointer (some p)] 24)).alloc (.cells #[.slice A n cap] 60)) := Lw.below_alloc (Lw.below_alloc (Lw.below_alloc (Lw.below_alloc (Below.refl _ _) _) _) _) _
  obtain ⟨W0, hW0⟩ : ∃ W0, ((((w2.alloc (.cells #[.slice none 0 0] 32)).alloc (.cells #[.func (.func 24) #[] #[.pointer (some ⟨w2.heap.size, 0, none⟩)]] 64)).alloc (.cells #[.pointer (some p)] 24)).alloc (.cells #[.slice A n cap] 60)) = W0 := ⟨_, rfl⟩
  have hsz : W0.heap.size = w2.heap.size + 4 := by rw [← hW0]; simp
  rw [hW0] at P5 BB ⊢
  clear hW0
  refine wpIn_rangeFunc_ownG rfl (by omega) (gf := 39) (lb := #[.pointer (some ⟨w2.heap.size + 1 + 1 + 1, 0, none⟩), .pointer (some ⟨w2.heap.size + 1 + 1, 0, none⟩)]) (S := fun xs => UpTo xs ∧ xs.length = l.length) (Sp := UpTo) (N := l.length) (encs := encP c sts l) (Kp := Kept (fun k => k = w2.heap.size ∨ W0.heap.size ≤ k)) (w0 := W0) rfl trivial (enters_of Try.func39 (by kernel_rfl) rfl)
    (fun lp J Jx W hW hJ hJx hY h0 => told_iter (9 - 1) (by omega) c sts p F (fun k => k = w2.heap.size ∨ W0.heap.size ≤ k) lp (w2.heap.size + 1 + 1 + 1) (w2.heap.size + 1 + 1) n cap A l hl1 J Jx W hJ hY (HS.out.up (W1.out.trans ((BB.trans (hW.mono BB.size)).mono (by omega)))) (fun k hk h => by have := hFs k hk; omega) (cell_up (box_cell (P5.i (t := boxT (w2.heap.size + 1 + 1 + 1) 60 #[.slice A n cap]) (by simp)) (i := 0) rfl) hW) (by omega) (cell_up (box_cell (P5.i (t := boxT (w2.heap.size + 1 + 1) 24 #[.pointer (some p)]) (by simp)) (i := 0) rfl) hW) (by omega) ((pcT A n cap (ints l)).keep w2 W (fun _ => False) HI.out (Kept.of_below (BB.trans (hW.mono BB.size))) (fun _ _ h => h)) (fun k hk h => by have := hPc k hk; omega) h0)
    (fun h k => h.trans k (fun _ _ h => h)) (fun W lp o o' hl h1 h2 h3 => kept_put (fun k hk => .inr hk) W lp o o' hl h1 h2 h3) (Below.refl _ _) (fun _ => rfl)
    (fun pre W => ∃ hdr, HoldC (fun _ => False) w2 W ([boxT (w2.heap.size + 1 + 1 + 1) 60 #[.slice A n cap], boxT (w2.heap.size + 1 + 1) 24 #[.pointer (some p)], boxT (w2.heap.size + 1) 64 #[.func (.func 24) #[] #[.pointer (some ⟨w2.heap.size, 0, none⟩)]]] ++ boxT w2.heap.size 32 #[hdr] :: ownT (w2.heap.size + 4) 2 hdr (gotV c sts l pre) :: []))
    (fun _ _ _ => False)
    (by
      rintro s X Y row ⟨hdr, h⟩ hg hr
      exact ⟨hdr, HoldC.own (by omega) (fun (_ : Unit) => _) () X Y row h hg hr⟩)
    (fun _ _ _ _ _ hs _ _ => hs)
    ⟨_, P5⟩
    (fun x => { tmps := #[.pointer (some p), .int .u64 lo, .int .u64 hi, undef, undef, undef, .slice none 0 0, .int .i64 0, .slice A n cap, .bool true, .pointer (some ⟨w2.heap.size, 0, none⟩), .pointer (some ⟨w2.heap.size + 1, 0, none⟩), .int .i64 (spV c sts ((l[x.1]'x.2).1 : Int) ((l[x.1]'x.2).2 : Int)), .int .u64 lo, .int .u64 hi, .bool false, .tuple #[.slice A n cap, .bool true], .pointer (some p), .agg #[.int .i64 c.bt, .int .i64 c.rw, .int .i64 c.wd, .int .i64 c.md, .int .u64 c.sd], .int .i64 c.bt, .int .u64 lo, .int .u64 hi, .tuple #[.slice A n cap, .bool true], .slice A n cap, .bool true, .bool true, .bool false, .func (.func 24) #[] #[.pointer (some ⟨w2.heap.size, 0, none⟩)], .pointer (some p), .slice A n cap, .func (.func 39) #[] #[.pointer (some ⟨w2.heap.size + 1 + 1 + 1, 0, none⟩), .pointer (some ⟨w2.heap.size + 1 + 1, 0, none⟩)], .int .i64 (spV c sts ((l[x.1]'x.2).1 : Int) ((l[x.1]'x.2).2 : Int)), undef, undef, undef, undef], defers := [] }) ?assign ?body ?done ?stop
  case assign =>
    intro lp x W K hK
    simp only [encP]
    gi_wp2
    exact hK
  case body =>
    rintro lp pre x W ⟨hdr, hh⟩ hlen
    have b1 := box_cell (hh.i (t := boxT (w2.heap.size + 1) 64 #[.func (.func 24) #[] #[.pointer (some ⟨w2.heap.size, 0, none⟩)]]) (by simp)) (i := 0) rfl
    have hsw : w2.heap.size + 4 ≤ W.heap.size := by
      have := box_lt (hh.i (t := boxT (w2.heap.size + 1 + 1 + 1) 60 #[.slice A n cap]) (by simp))
      omega
    gi_wp2_with (refine ⟨trivial, ?_⟩; gi_at_call 24; refine (CallsIn.inRound lp (callsIn_wide.2 (gather_any w2.heap.size (w2.heap.size + 4) (fun _ => False) w2 W hdr (gotV c sts l pre) _ _ [] hh (by unfold gotV; rw [List.length_map]; omega) hsw))).mono ?_; rintro e W3 ⟨hdr3, rfl, hh3, hk3, ho3⟩)
    refine ⟨ho3.from _, by rw [hsz]; exact hk3, hdr3, ?_⟩
    have e7 : gotV c sts l (pre ++ [x]) = gotV c sts l pre ++ [.int .i64 (spV c sts ((l[x.1]'x.2).1 : Int) ((l[x.1]'x.2).2 : Int))] := by unfold gotV; rw [List.map_append]; rfl
    rw [e7]
    exact hh3
  case done =>
    rintro D ys W hD ⟨hup, hyl⟩ ⟨hdr, hh⟩ hK
    have o1 := box_cell (hh.i (t := boxT w2.heap.size 32 #[hdr]) (by simp)) (i := 0) rfl
    gi_wp2
    refine ⟨by simp, .inl ⟨_, _, rfl, run_takeDeferred hK, ?_⟩⟩
    have hs2 := HoldC.own (B := W0.heap.size) (by omega) (fun (_ : Unit) => _) () _ _ _ hh (grownBy_putObj' _ D (.deferred none)) (fun r e => by cases e; exact ⟨hD, _, hK, rfl⟩)
    obtain ⟨A2, cap2, rfl, g1, g2, g3⟩ := own_any16 (hs2.i (t := ownT (w2.heap.size + 4) 2 hdr (gotV c sts l ys)) (by simp))
    have e8 := got_all (c := c) (sts := sts) hup hyl
    have e9 : (gotV c sts l ys).length = l.length := by rw [e8]; simp
    rw [HL2.out]
    refine ⟨_, ?_, A2, (gotV c sts l ys).length, cap2, rfl, fun j v hj => g3 j _ (by rw [e8, List.getElem?_map, hj]; rfl), by rw [e9]; simp, g1, g2, W1.out.trans (hs2.1.1.below.mono (by omega))⟩
    simp [results, Try.results11, go_sem]
  case stop =>
    rintro D j pre W _ _ h _
    exact h.elim
theorem sp_parts (p : Addr) (F : Nat → Prop) (c : Cfg) (sts : List LS) (lo hi : Int) (w : World) (h : ST w p F c sts) (lo0 : 0 ≤ lo) (lo1 : lo ≤ 18446744073709551615) (hi0 : 0 ≤ hi) (hi1 : hi ≤ 18446744073709551615) :
    Calls Try.prog 11 #[.pointer (some p), .int .u64 lo, .int .u64 hi] w fun e w' => ∃ (A : Option Addr) (n cap : Nat), e = .returned (.tuple #[.slice A n cap, .int .i64 (ptC2 c lo hi)]) ∧ Rd .i64 w' A (ptL c (fun L i => spV c sts (L : Int) i) lo hi) ∧ (ptL c (fun L i => spV c sts (L : Int) i) lo hi).length = n ∧ n ≤ cap ∧ cap ≤ maxLen ∧ Below w.heap.size w w' := by
  by_cases h1 : hi < lo
  · exact sp_parts_1 p F c sts lo hi w h h1
  · by_cases h2 : keys c 0 ≤ hi
    · exact sp_parts_2 p F c sts lo hi w h lo0 lo1 hi0 hi1 h1 h2
    · exact sp_parts_3 p F c sts lo hi w h lo0 lo1 hi0 hi1 h1 h2
set_option maxRecDepth 100000 in
set_option maxHeartbeats 2000000 in
theorem sp_range (p : Addr) (F : Nat → Prop) (c : Cfg) (sts : List LS) (lo hi : Int) (w : World) (h : ST w p F c sts) (lo0 : 0 ≤ lo) (lo1 : lo ≤ 18446744073709551615) (hi0 : 0 ≤ hi) (hi1 : hi ≤ 18446744073709551615) :
    Calls Try.prog 7 #[.pointer (some p), .int .u64 lo, .int .u64 hi] w fun e w' => e = .returned (.tuple #[.int .i64 (rgV c (fun L i => spV c sts (L : Int) i) lo hi), .int .i64 (rgC c (fun L i => spV c sts (L : Int) i) lo hi)]) ∧ Below w.heap.size w w' := by
  have CP := Lib.hid (fun w h => sp_parts p F c sts lo hi w h lo0 lo1 hi0 hi1)
  have HS := Lib.hid h
  have HL := Lib.hid (parts_len16 h.1 (fun L i => spV c sts (L : Int) i) lo hi lo0)
  have HI := Lib.hid (parts_in16 h lo hi)
  clear h lo0 lo1 hi0 hi1
  by_cases hc : ptC2 c lo hi = 0
  · have e2 : ptL c (fun L i => spV c sts (L : Int) i) lo hi = parts c (fun L i => spV c sts (L : Int) i) lo hi := by unfold ptL; rw [if_pos hc]
    rw [e2] at HL HI
    have HC := Lib.hid hc
    have HE2 := Lib.hid e2
    obtain ⟨fb, hfb⟩ : ∃ fb, Wid.fit64 (parts c (fun L i => spV c sts (L : Int) i) lo hi).sum = fb := ⟨_, rfl⟩
    have HFB := Lib.hid hfb
    have HV : Hid (rgC c (fun L i => spV c sts (L : Int) i) lo hi = (if fb = true then 0 else 4) ∧ rgV c (fun L i => spV c sts (L : Int) i) lo hi = (if fb = true then (parts c (fun L i => spV c sts (L : Int) i) lo hi).sum else 0)) := Lib.hid (by
      have e5 : rgC c (fun L i => spV c sts (L : Int) i) lo hi = (if fb = true then 0 else 4) := by unfold rgC; rw [if_pos hc, hfb]
      refine ⟨e5, ?_⟩
      unfold rgV
      rw [e5]
      cases fb <;> simp)
    rw [HV.out.1, HV.out.2]
    clear HV hc e2 hfb
    cases fb with
    | true =>
      have e6 : Wid.f64 (parts c (fun L i => spV c sts (L : Int) i) lo hi).sum = (parts c (fun L i => spV c sts (L : Int) i) lo hi).sum := by unfold Wid.f64; rw [if_pos HFB.out]
      have HE6 := Lib.hid e6
      clear e6
      go_enter Try.func7, Try.ntmps7
      go_wp2_with (first
        | (go_at_call 11; (refine (CP.out _ HS.out).mono ?_); rintro e w1 ⟨A, n, cap, rfl, hr1, hl1, hn1, hm1, hb1⟩; rw [HC.out]; rw [HE2.out] at hr1 hl1)
        | (go_at_call 16; (refine (Wid.sum_any A n cap _ _ hr1 hl1 (by rw [← hl1]; exact HL.out) HI.out).mono ?_); rintro e w2 ⟨rfl, hb2⟩; rw [HFB.out, HE6.out]))
      refine bodyPost_ret (v := .tuple #[.int .i64 (parts c (fun L i => spV c sts (L : Int) i) lo hi).sum, .int .i64 0]) (by simp [results, Try.results7, go_sem]) rfl ?_
      exact ⟨rfl, hb1.trans (hb2.mono hb1.size)⟩
    | false =>
      have e6 : Wid.f64 (parts c (fun L i => spV c sts (L : Int) i) lo hi).sum = 0 := by unfold Wid.f64; rw [if_neg (by rw [HFB.out]; decide)]
      have HE6 := Lib.hid e6
      clear e6
      go_enter Try.func7, Try.ntmps7
      go_wp2_with (first
        | (go_at_call 11; (refine (CP.out _ HS.out).mono ?_); rintro e w1 ⟨A, n, cap, rfl, hr1, hl1, hn1, hm1, hb1⟩; rw [HC.out]; rw [HE2.out] at hr1 hl1)
        | (go_at_call 16; (refine (Wid.sum_any A n cap _ _ hr1 hl1 (by rw [← hl1]; exact HL.out) HI.out).mono ?_); rintro e w2 ⟨rfl, hb2⟩; rw [HFB.out, HE6.out]))
      refine bodyPost_ret (v := .tuple #[.int .i64 0, .int .i64 4]) (by simp [results, Try.results7, go_sem]) rfl ?_
      exact ⟨rfl, hb1.trans (hb2.mono hb1.size)⟩
  · have e5 : rgC c (fun L i => spV c sts (L : Int) i) lo hi = ptC2 c lo hi := by unfold rgC; rw [if_neg hc]
    have e6 : rgV c (fun L i => spV c sts (L : Int) i) lo hi = 0 := by unfold rgV; rw [e5, if_neg hc]
    rw [e5, e6]
    clear e5 e6
    obtain ⟨C, hC⟩ : ∃ C, ptC2 c lo hi = C := ⟨_, rfl⟩
    have HC := Lib.hid hC
    rw [hC] at hc ⊢
    clear hC
    go_enter Try.func7, Try.ntmps7
    go_wp2_with (go_at_call 11; (refine (CP.out _ HS.out).mono ?_); rintro e w1 ⟨A, n, cap, rfl, hr1, hl1, hn1, hm1, hb1⟩; rw [HC.out])
    refine bodyPost_ret (v := .tuple #[.int .i64 0, .int .i64 C]) (by simp [results, Try.results7, go_sem]) rfl ?_
    exact ⟨rfl, hb1⟩
set_option maxRecDepth 100000 in
set_option maxHeartbeats 2000000 in
theorem sp_rank (p : Addr) (F : Nat → Prop) (c : Cfg) (sts : List LS) (hi : Int) (w : World) (h : ST w p F c sts) (hi0 : 0 ≤ hi) (hi1 : hi ≤ 18446744073709551615) :
    Calls Try.prog 10 #[.pointer (some p), .int .u64 hi] w fun e w' => e = .returned (.tuple #[.int .i64 (rgV c (fun L i => spV c sts (L : Int) i) 0 hi), .int .i64 (rgC c (fun L i => spV c sts (L : Int) i) 0 hi)]) ∧ Below w.heap.size w w' := by
  have CP := Lib.hid (fun w h => sp_range p F c sts 0 hi w h (by omega) (by omega) hi0 hi1)
  have HS := Lib.hid h
  clear h hi0 hi1
  go_enter Try.func10, Try.ntmps10
  go_wp2_with (go_at_call 7; (refine (CP.out _ HS.out).mono ?_); rintro e w1 ⟨rfl, hb1⟩)
  refine bodyPost_ret (v := .tuple #[.int .i64 (rgV c (fun L i => spV c sts (L : Int) i) 0 hi), .int .i64 (rgC c (fun L i => spV c sts (L : Int) i) 0 hi)]) (by simp [results, Try.results10, go_sem]) rfl ?_
  exact ⟨rfl, hb1⟩
end Go.Proofs.Ytbifihhfoanmgaa.Spn
/- fed of layer 15's laws. Printed by wip/gen/stk.py. -/
namespace Go.Proofs.Ytbifihhfoanmgaa.Stk
open Go Go.RowKit Lw Grd Lin Con Shp Sk Exa Lev
set_option linter.unusedVariables false
set_option linter.unusedSimpArgs false
theorem box6 {w : World} {b : Nat} {e : TypeId} {v0 v1 v2 v3 v4 v5 : Value} (h : (boxT b e #[v0, v1, v2, v3, v4, v5]).I w) : w.cell? ⟨b, 0, none⟩ = some v0 ∧ w.cell? ⟨b, 1, none⟩ = some v1 ∧ w.cell? ⟨b, 2, none⟩ = some v2 ∧ w.cell? ⟨b, 3, none⟩ = some v3 ∧ w.cell? ⟨b, 4, none⟩ = some v4 ∧ w.cell? ⟨b, 5, none⟩ = some v5 :=
  ⟨box_cell h rfl, box_cell h rfl, box_cell h rfl, box_cell h rfl, box_cell h rfl, box_cell h rfl⟩
end Go.Proofs.Ytbifihhfoanmgaa.Stk
/- shown of layer 15's laws. Printed by wip/gen/stk2.py. -/
namespace Go.Proofs.Ytbifihhfoanmgaa.Stk
open Go Go.RowKit Lw Grd Lin Con Shp Sk Exa Lev
set_option linter.unusedVariables false
set_option linter.unusedSimpArgs false
def lS : Cfg := ⟨2, 2, 2, 1, 0⟩
theorem lS_ok : lS.Ok := by constructor <;> decide
theorem lS_r : IsRight lS := by decide
theorem lS_k : keys lS 0 = 4 := by decide
theorem lS_in {us : Ups} (h : ∀ u ∈ us, (0 ≤ u.1 ∧ u.1 < 4) ∧ (-1099511627776 ≤ u.2 ∧ u.2 ≤ 1099511627776)) : UpsIn lS 0 us :=
  ⟨fun u hu => ⟨(h u hu).1.1, by rw [lS_k]; exact (h u hu).1.2, (h u hu).2⟩, fun hm => by simp [lS] at hm⟩
theorem sS_1 : sucode lS (stsOf lS []) 3 5 = 0 ∧ sures lS (stsOf lS []) 3 5 = stsOf lS [(3, 5)] :=
  stsOf_step lS_r (lS_in (fun u hu => by simp at hu)) (by decide) (u := (3, 5)) (lS_in (fun u hu => by rw [List.mem_singleton.1 hu]; decide))
theorem sS_2 : sucode lS (stsOf lS [(3, 5)]) 0 (-2) = 0 ∧ sures lS (stsOf lS [(3, 5)]) 0 (-2) = stsOf lS [(3, 5), (0, -2)] :=
  stsOf_step lS_r (lS_in (fun u hu => by rw [List.mem_singleton.1 hu]; decide)) (by decide) (u := (0, -2)) (lS_in (fun u hu => by rw [List.mem_singleton.1 hu]; decide))
theorem sS_3 (sts : List LS) : sucode lS sts 4 1 = 2 ∧ sures lS sts 4 1 = sts := by
  have e : sucode lS sts 4 1 = 2 := if_pos (by rw [lS_k]; decide)
  exact ⟨e, if_neg (by rw [e]; decide)⟩
theorem sz_flat2 {m n : Nat} {L : List (List Int)} (h : Sz m n L) : L.flatten.length = m * n := by
  have h2 : ∀ {L : List (List Int)}, (∀ r ∈ L, r.length = n) → L.flatten.length = L.length * n := by
    intro L
    induction L with
    | nil => intro _; simp
    | cons r L ih =>
      intro hr
      rw [List.flatten_cons, List.length_append, ih (fun q hq => hr q (by simp [hq])), hr r (by simp), List.length_cons, Nat.succ_mul]
      omega
  rw [h2 h.2, h.1]
theorem sS_c0 : (lvFl (stsOf lS [(3, 5), (0, -2)]) 0).length = 4 := by
  have h1 : UpsIn lS 0 [(3, 5), (0, -2)] := lS_in (fun u hu => by
    rcases List.mem_cons.1 hu with rfl | hu
    · decide
    · rw [List.mem_singleton.1 hu]; decide)
  have h2 := upN_in lS_r h1 (n := 0) (by decide)
  have h3 := sz_flat2 (cells_sz h2)
  have e : lvFl (stsOf lS [(3, 5), (0, -2)]) 0 = (cells lS 0 (upN [(3, 5), (0, -2)] 0)).flatten := rfl
  rw [e]
  exact h3
theorem sS_c1 : lvFl (stsOf lS [(3, 5), (0, -2)]) 1 = [-2, 5] := by decide
theorem sS_p1 : spV lS (stsOf lS [(3, 5), (0, -2)]) 1 1 = 5 ∧ spC lS (stsOf lS [(3, 5), (0, -2)]) 1 1 = 0 := by decide
theorem sS_p3 : spC lS (stsOf lS [(3, 5), (0, -2)]) 3 0 = 2 := by decide
theorem sS_t : spV lS (stsOf lS [(3, 5), (0, -2)]) lS.bt 0 = 3 := by decide
theorem sS_a : (stsOf lS [(3, 5), (0, -2)])[1]? = some (.A [-2, 5]) := by
  have h := stsOf_get (c := lS) (us := [(3, 5), (0, -2)]) (n := 1) (by decide)
  have e : stOf lS [(3, 5), (0, -2)] 1 = .A (sums (keys lS 1).toNat (upN [(3, 5), (0, -2)] 1)) := if_pos (by decide)
  have e2 : sums (keys lS 1).toNat (upN [(3, 5), (0, -2)] 1) = [-2, 5] := by decide
  rw [h, e, e2]
theorem sn_1 (w : World) : Calls Try.prog 5 #[.agg #[.int .i64 2, .int .i64 2, .int .i64 2, .int .i64 1, .int .u64 0]] w fun e w' => ∃ (p : Addr) (F : Nat → Prop), e = .returned (.tuple #[.pointer (some p), .int .i64 0]) ∧ ST w' p F lS (stsOf lS []) ∧ (∀ k, F k → w.heap.size ≤ k) ∧ Below w.heap.size w w' := cs_new lS w lS_ok lS_r
theorem sn_0 (w : World) : Calls Try.prog 5 #[.agg #[.int .i64 0, .int .i64 0, .int .i64 0, .int .i64 0, .int .u64 0]] w fun e w' => e = .returned (.tuple #[.pointer none, .int .i64 1]) ∧ Below w.heap.size w w' := cs_none ⟨0, 0, 0, 0, 0⟩ w (by constructor <;> decide) (by decide)
theorem su_any (p : Addr) (F : Nat → Prop) (sts sts2 : List LS) (k d x : Int) (w : World) (h : ST w p F lS sts) (k0 : 0 ≤ k) (k1 : k ≤ 18446744073709551615) (d0 : -9223372036854775808 ≤ d) (d1 : d ≤ 9223372036854775807) (hu : sucode lS sts k d = x ∧ sures lS sts k d = sts2) :
    Calls Try.prog 9 #[.pointer (some p), .int .u64 k, .int .i64 d] w fun e w' => e = .returned (.int .i64 x) ∧ ∃ F', ST w' p F' lS sts2 ∧ Kept F w w' ∧ (∀ q, F' q → F q ∨ w.heap.size ≤ q) := by
  have h1 := cs_upd p F lS sts k d w h k0 k1 d0 d1
  rw [hu.1, hu.2] at h1
  exact h1
theorem sp_1 (p : Addr) (F : Nat → Prop) (w : World) (h : ST w p F lS (stsOf lS [(3, 5), (0, -2)])) : Calls Try.prog 40 #[.pointer (some p), .agg #[.int .i64 1, .int .u64 1]] w fun e w' => e = .returned (.tuple #[.int .i64 5, .int .i64 0]) ∧ Below w.heap.size w w' := by
  have h1 := cs_point p F lS _ 1 1 w h (by decide) (by decide) (by decide) (by decide)
  rw [sS_p1.1, sS_p1.2] at h1
  exact h1
theorem sp_3 (p : Addr) (F : Nat → Prop) (w : World) (h : ST w p F lS (stsOf lS [(3, 5), (0, -2)])) : Calls Try.prog 40 #[.pointer (some p), .agg #[.int .i64 3, .int .u64 0]] w fun e w' => ∃ z, e = .returned (.tuple #[.int .i64 z, .int .i64 2]) ∧ Below w.heap.size w w' := by
  have h1 := cs_point p F lS _ 3 0 w h (by decide) (by decide) (by decide) (by decide)
  rw [sS_p3] at h1
  exact h1.mono (fun e w' h => ⟨_, h⟩)
theorem lit_m2 (X : World) : Rd .i64 (X.alloc (.cells #[.int .i64 (-2), .int .i64 5] 2)) (some ⟨X.heap.size, 0, none⟩) [-2, 5] := by
  have hb := heap_alloc_new X (.cells #[.int .i64 (-2), .int .i64 5] 2)
  exact lit2 (box_cell hb rfl) (box_cell hb rfl)
end Go.Proofs.Ytbifihhfoanmgaa.Stk
/- shown of layer 16's laws. Printed by wip/gen/spn3.py. -/
namespace Go.Proofs.Ytbifihhfoanmgaa.Spn
open Go Go.RowKit Lw Grd Lin Con Shp Sk Exa Lev Stk Pcs
set_option linter.unusedVariables false
set_option linter.unusedSimpArgs false
def lT : Cfg := ⟨3, 1, 8, 1, 0⟩
theorem lT_ok : lT.Ok := by constructor <;> decide
theorem lT_r : IsRight lT := by decide
theorem lT_k : keys lT 0 = 8 := by decide
theorem lT_in {us : Ups} (h : ∀ u ∈ us, (0 ≤ u.1 ∧ u.1 < 8) ∧ (-1099511627776 ≤ u.2 ∧ u.2 ≤ 1099511627776)) : UpsIn lT 0 us :=
  ⟨fun u hu => ⟨(h u hu).1.1, by rw [lT_k]; exact (h u hu).1.2, (h u hu).2⟩, fun hm => by simp [lT] at hm⟩
theorem sT_1 : sucode lT (stsOf lT []) 1 5 = 0 ∧ sures lT (stsOf lT []) 1 5 = stsOf lT [(1, 5)] :=
  stsOf_step lT_r (lT_in (fun u hu => by simp at hu)) (by decide) (u := (1, 5)) (lT_in (fun u hu => by rw [List.mem_singleton.1 hu]; decide))
theorem sT_2 : sucode lT (stsOf lT [(1, 5)]) 6 7 = 0 ∧ sures lT (stsOf lT [(1, 5)]) 6 7 = stsOf lT [(1, 5), (6, 7)] :=
  stsOf_step lT_r (lT_in (fun u hu => by rw [List.mem_singleton.1 hu]; decide)) (by decide) (u := (6, 7)) (lT_in (fun u hu => by rw [List.mem_singleton.1 hu]; decide))
theorem cv_16 : Cov 3 7 1 [(0, 1), (1, 1), (1, 2), (0, 6)] :=
  .cons (L := 0) (by unfold GL; decide) (.cons (lo := 2) (L := 1) (by unfold GL; decide) (.cons (lo := 4) (L := 1) (by unfold GL; decide) (.cons (lo := 6) (L := 0) (by unfold GL; decide) .nil)))
theorem cv_05 : Cov 3 6 0 [(2, 0), (1, 2)] :=
  .cons (L := 2) (by unfold GL; decide) (.cons (lo := 4) (L := 1) (by unfold GL; decide) .nil)
theorem pt_16 : parts lT (fun L i => spV lT (stsOf lT [(1, 5), (6, 7)]) (L : Int) i) 1 6 = [5, 0, 0, 7] := by
  unfold parts
  rw [covL_eq (n := lT.bt.toNat) (lo := (1 : Int).toNat) (hi := (6 : Int).toNat) cv_16]
  decide
theorem pt_05 : parts lT (fun L i => spV lT (stsOf lT [(1, 5), (6, 7)]) (L : Int) i) 0 5 = [5, 0] := by
  unfold parts
  rw [covL_eq (n := lT.bt.toNat) (lo := (0 : Int).toNat) (hi := (5 : Int).toNat) cv_05]
  decide
theorem pc_any (lo hi : Int) (h1 : lo ≤ hi) (h2 : hi < 8) : ptC2 lT lo hi = 0 := by
  unfold ptC2
  rw [lT_k, if_neg (by omega), if_neg (by omega)]
theorem ptl_16 : ptL lT (fun L i => spV lT (stsOf lT [(1, 5), (6, 7)]) (L : Int) i) 1 6 = [5, 0, 0, 7] := by
  unfold ptL
  rw [if_pos (pc_any 1 6 (by decide) (by decide)), pt_16]
theorem rg_16 : rgV lT (fun L i => spV lT (stsOf lT [(1, 5), (6, 7)]) (L : Int) i) 1 6 = 12 ∧ rgC lT (fun L i => spV lT (stsOf lT [(1, 5), (6, 7)]) (L : Int) i) 1 6 = 0 := by
  have h : rgC lT (fun L i => spV lT (stsOf lT [(1, 5), (6, 7)]) (L : Int) i) 1 6 = 0 := by
    unfold rgC
    rw [if_pos (pc_any 1 6 (by decide) (by decide)), pt_16]
    decide
  exact ⟨by unfold rgV; rw [if_pos h, pt_16]; decide, h⟩
theorem rg_05 : rgV lT (fun L i => spV lT (stsOf lT [(1, 5), (6, 7)]) (L : Int) i) 0 5 = 5 ∧ rgC lT (fun L i => spV lT (stsOf lT [(1, 5), (6, 7)]) (L : Int) i) 0 5 = 0 := by
  have h : rgC lT (fun L i => spV lT (stsOf lT [(1, 5), (6, 7)]) (L : Int) i) 0 5 = 0 := by
    unfold rgC
    rw [if_pos (pc_any 0 5 (by decide) (by decide)), pt_05]
    decide
  exact ⟨by unfold rgV; rw [if_pos h, pt_05]; decide, h⟩
theorem rg_no (lo hi e : Int) (he : ptC2 lT lo hi = e) (h0 : ¬ e = 0) : rgV lT (fun L i => spV lT (stsOf lT [(1, 5), (6, 7)]) (L : Int) i) lo hi = 0 ∧ rgC lT (fun L i => spV lT (stsOf lT [(1, 5), (6, 7)]) (L : Int) i) lo hi = e := by
  have h : rgC lT (fun L i => spV lT (stsOf lT [(1, 5), (6, 7)]) (L : Int) i) lo hi = e := by
    unfold rgC
    rw [if_neg (by rw [he]; exact h0), he]
  exact ⟨by unfold rgV; rw [if_neg (by rw [h]; exact h0)], h⟩
theorem rg_21 : rgV lT (fun L i => spV lT (stsOf lT [(1, 5), (6, 7)]) (L : Int) i) 2 1 = 0 ∧ rgC lT (fun L i => spV lT (stsOf lT [(1, 5), (6, 7)]) (L : Int) i) 2 1 = 1 := rg_no 2 1 1 (by decide) (by decide)
theorem rg_28 : rgV lT (fun L i => spV lT (stsOf lT [(1, 5), (6, 7)]) (L : Int) i) 2 8 = 0 ∧ rgC lT (fun L i => spV lT (stsOf lT [(1, 5), (6, 7)]) (L : Int) i) 2 8 = 2 := rg_no 2 8 2 (by decide) (by decide)
theorem tn_1 (w : World) : Calls Try.prog 5 #[.agg #[.int .i64 3, .int .i64 1, .int .i64 8, .int .i64 1, .int .u64 0]] w fun e w' => ∃ (p : Addr) (F : Nat → Prop), e = .returned (.tuple #[.pointer (some p), .int .i64 0]) ∧ ST w' p F lT (stsOf lT []) ∧ (∀ k, F k → w.heap.size ≤ k) ∧ Below w.heap.size w w' := cs_new lT w lT_ok lT_r
theorem tu_any (p : Addr) (F : Nat → Prop) (sts sts2 : List LS) (k d x : Int) (w : World) (h : ST w p F lT sts) (k0 : 0 ≤ k) (k1 : k ≤ 18446744073709551615) (d0 : -9223372036854775808 ≤ d) (d1 : d ≤ 9223372036854775807) (hu : sucode lT sts k d = x ∧ sures lT sts k d = sts2) :
    Calls Try.prog 9 #[.pointer (some p), .int .u64 k, .int .i64 d] w fun e w' => e = .returned (.int .i64 x) ∧ ∃ F', ST w' p F' lT sts2 ∧ Kept F w w' ∧ (∀ q, F' q → F q ∨ w.heap.size ≤ q) := by
  have h1 := cs_upd p F lT sts k d w h k0 k1 d0 d1
  rw [hu.1, hu.2] at h1
  exact h1
theorem tr_any (p : Addr) (F : Nat → Prop) (lo hi v x : Int) (w : World) (h : ST w p F lT (stsOf lT [(1, 5), (6, 7)])) (l0 : 0 ≤ lo) (l1 : lo ≤ 18446744073709551615) (i0 : 0 ≤ hi) (i1 : hi ≤ 18446744073709551615) (hv : rgV lT (fun L i => spV lT (stsOf lT [(1, 5), (6, 7)]) (L : Int) i) lo hi = v ∧ rgC lT (fun L i => spV lT (stsOf lT [(1, 5), (6, 7)]) (L : Int) i) lo hi = x) :
    Calls Try.prog 7 #[.pointer (some p), .int .u64 lo, .int .u64 hi] w fun e w' => e = .returned (.tuple #[.int .i64 v, .int .i64 x]) ∧ Below w.heap.size w w' := by
  have h1 := sp_range p F lT (stsOf lT [(1, 5), (6, 7)]) lo hi w h l0 l1 i0 i1
  rw [hv.1, hv.2] at h1
  exact h1
theorem tk_5 (p : Addr) (F : Nat → Prop) (w : World) (h : ST w p F lT (stsOf lT [(1, 5), (6, 7)])) :
    Calls Try.prog 10 #[.pointer (some p), .int .u64 5] w fun e w' => e = .returned (.tuple #[.int .i64 5, .int .i64 0]) ∧ Below w.heap.size w w' := by
  have h1 := sp_rank p F lT (stsOf lT [(1, 5), (6, 7)]) 5 w h (by decide) (by decide)
  rw [rg_05.1, rg_05.2] at h1
  exact h1
theorem tp_16 (p : Addr) (F : Nat → Prop) (w : World) (h : ST w p F lT (stsOf lT [(1, 5), (6, 7)])) :
    Calls Try.prog 11 #[.pointer (some p), .int .u64 1, .int .u64 6] w fun e w' => ∃ (A : Option Addr) (cap : Nat), e = .returned (.tuple #[.slice A 4 cap, .int .i64 0]) ∧ Rd .i64 w' A [5, 0, 0, 7] ∧ Below w.heap.size w w' := by
  refine (sp_parts p F lT (stsOf lT [(1, 5), (6, 7)]) 1 6 w h (by decide) (by decide) (by decide) (by decide)).mono ?_
  rintro e w' ⟨A, n, cap, rfl, hr, hn, -, -, hb⟩
  rw [ptl_16] at hr hn
  subst hn
  rw [pc_any 1 6 (by decide) (by decide)]
  exact ⟨A, cap, rfl, hr, hb⟩
theorem lit4w {w : World} {g : Nat} {x y z u : Int} (h0 : w.cell? ⟨g, 0, none⟩ = some (.int .i64 x)) (h1 : w.cell? ⟨g, 1, none⟩ = some (.int .i64 y)) (h2 : w.cell? ⟨g, 2, none⟩ = some (.int .i64 z)) (h3 : w.cell? ⟨g, 3, none⟩ = some (.int .i64 u)) : Rd .i64 w (some ⟨g, 0, none⟩) [x, y, z, u] := by
  intro k v hk
  refine ⟨_, rfl, ?_⟩
  match k, hk with
  | 0, hk => simp at hk; subst hk; exact h0
  | 1, hk => simp at hk; subst hk; exact h1
  | 2, hk => simp at hk; subst hk; exact h2
  | 3, hk => simp at hk; subst hk; exact h3
theorem lit_57 (X : World) : Rd .i64 (X.alloc (.cells #[.int .i64 5, .int .i64 0, .int .i64 0, .int .i64 7] 2)) (some ⟨X.heap.size, 0, none⟩) [5, 0, 0, 7] := by
  have hb := heap_alloc_new X (.cells #[.int .i64 5, .int .i64 0, .int .i64 0, .int .i64 7] 2)
  exact lit4w (box_cell hb rfl) (box_cell hb rfl) (box_cell hb rfl) (box_cell hb rfl)
set_option maxRecDepth 100000 in
set_option maxHeartbeats 8000000 in
theorem shown_any (w : World) : Calls Try.prog 4 #[] w fun e w' => e = .returned (.bool true) ∧ Below w.heap.size w w' := by
  have HV0 : Hid (Have w w []) := Lib.hid (Below.refl _ _)
  have l4 : ([5, 0, 0, 7] : List Int).length = 4 := rfl
  have eq4 : decide (([5, 0, 0, 7] : List Int) = [5, 0, 0, 7]) = true := decide_eq_true rfl
  go_enter Try.func4, Try.ntmps4
  go_wp2_with (first
    | (go_at_call 12; (with_reducible refine (rsame_any _ _ _ _ _ _ [5, 0, 0, 7] [5, 0, 0, 7] _ (RD.out.up (by repeat' (first | (with_reducible exact Below.refl _ _) | (with_reducible assumption) | (with_reducible refine below_over ?_ _ _) | (with_reducible refine Lw.below_alloc ?_ _) | (with_reducible refine Below.drew ?_) | (with_reducible refine below_drewN ?_ _) | (with_reducible refine Below.setCell ?_ ?_ _) | go_size))) (lit_57 _) l4 l4 (by omega) (by omega)).mono ?_); rintro e w9 ⟨rfl, hb⟩; have HV9 := Lib.hid ((HV8.out.up (by repeat' (first | (with_reducible exact Below.refl _ _) | (with_reducible assumption) | (with_reducible refine below_over ?_ _ _) | (with_reducible refine Lw.below_alloc ?_ _) | (with_reducible refine Below.drew ?_) | (with_reducible refine below_drewN ?_ _) | (with_reducible refine Below.setCell ?_ ?_ _) | go_size))).up hb); clear hb)
    | (go_at_call 7; (with_reducible refine (tr_any p F2 _ _ _ _ _ (stI HV7.out.i0) (by decide) (by decide) (by decide) (by decide) rg_28).mono ?_); rintro e w8 ⟨rfl, hb⟩; have RD := Lib.hid (RD.out.up hb); have HV8 := Lib.hid (HV7.out.up hb); clear hb)
    | (go_at_call 7; (with_reducible refine (tr_any p F2 _ _ _ _ _ (stI HV6.out.i0) (by decide) (by decide) (by decide) (by decide) rg_21).mono ?_); rintro e w7 ⟨rfl, hb⟩; have RD := Lib.hid (RD.out.up hb); have HV7 := Lib.hid (HV6.out.up hb); clear hb)
    | (go_at_call 11; (with_reducible refine (tp_16 p F2 _ (stI HV5.out.i0)).mono ?_); rintro e w6 ⟨A, cap, rfl, hr, hb⟩; have RD := Lib.hid hr; have HV6 := Lib.hid (HV5.out.up hb); clear hb hr)
    | (go_at_call 10; (with_reducible refine (tk_5 p F2 _ (stI HV4.out.i0)).mono ?_); rintro e w5 ⟨rfl, hb⟩; have HV5 := Lib.hid (HV4.out.up hb); clear hb)
    | (go_at_call 7; (with_reducible refine (tr_any p F2 _ _ _ _ _ (stI HV3.out.i0) (by decide) (by decide) (by decide) (by decide) rg_16).mono ?_); rintro e w4 ⟨rfl, hb⟩; have HV4 := Lib.hid (HV3.out.up hb); clear hb)
    | (go_at_call 9; (with_reducible refine (tu_any p F1 _ _ _ _ _ _ (stI HV2.out.i0) (by decide) (by decide) (by decide) (by decide) sT_2).mono ?_); rintro e w3 ⟨rfl, F2, h1, h2, h3⟩; have HV3 := Lib.hid (HV2.out.turn_0 (stT p F2 lT (stsOf lT [(1, 5), (6, 7)])) h1 h2 h3); clear h1 h2 h3)
    | (go_at_call 9; (with_reducible refine (tu_any p F _ _ _ _ _ _ (stI HV1.out.i0) (by decide) (by decide) (by decide) (by decide) sT_1).mono ?_); rintro e w2 ⟨rfl, F1, h1, h2, h3⟩; have HV2 := Lib.hid (HV1.out.turn_0 (stT p F1 lT (stsOf lT [(1, 5)])) h1 h2 h3); clear h1 h2 h3)
    | (go_at_call 5; (with_reducible refine (tn_1 _).mono ?_); rintro e w1 ⟨p, F, rfl, h1, h2, hb⟩; have HV1 := Lib.hid (HV0.out.push (stT p F lT (stsOf lT [])) hb h1 h2); clear h1 h2 hb))
  go_ret
  exact ⟨ret_bs (by first | rfl | (simp [*]; done)), HV9.out.below⟩
end Go.Proofs.Ytbifihhfoanmgaa.Spn
/- The stack of SpanFar. Printed by wip/gen/spn8.py. -/
namespace Go.Proofs.Ytbifihhfoanmgaa.Spn
open Go Go.RowKit Lw Grd Lin Con Shp Sk Exa Lev Stk Pcs
set_option linter.unusedVariables false
set_option linter.unusedSimpArgs false
def lF : Cfg := ⟨2, 1, 4, 1, 0⟩
theorem lF_ok : lF.Ok := by constructor <;> decide
theorem lF_r : IsRight lF := by decide
theorem lF_k : keys lF 0 = 4 := by decide
def stF1 (x0 x1 x2 x3 : Int) : List LS := [.A [x0, x1, x2, x3], .A [0, 0], .A [0]]
def stF2 (x0 x1 x2 x3 : Int) : List LS := [.A [x0, x1, x2, x3], .A [x0, x3], .A [0]]
theorem sF0 : stsOf lF [] = [.A [0, 0, 0, 0], .A [0, 0], .A [0]] := by
  have e : ∀ n : Nat, n ≤ 2 → (stsOf lF [])[n]? = some (.A (sums (keys lF n).toNat (upN [] n))) := fun n hn => by
    have h := stsOf_get (c := lF) (us := []) (n := n) (Nat.lt_succ_of_le hn)
    rw [h]
    have hx : exactB lF n = true := by
      match n, hn with
      | 0, _ => decide
      | 1, _ => decide
      | 2, _ => decide
    exact congrArg some (if_pos hx)
  have hl : (stsOf lF []).length = 3 := by decide
  have e0 := e 0 (by omega)
  have e1 := e 1 (by omega)
  have e2 := e 2 (by omega)
  have k0 : sums (keys lF (0 : Nat)).toNat (upN [] 0) = [0, 0, 0, 0] := by decide
  have k1 : sums (keys lF (1 : Nat)).toNat (upN [] 1) = [0, 0] := by decide
  have k2 : sums (keys lF (2 : Nat)).toNat (upN [] 2) = [0] := by decide
  rw [k0] at e0
  rw [k1] at e1
  rw [k2] at e2
  match h : stsOf lF [], hl with
  | [a, b, c], _ =>
    rw [h] at e0 e1 e2
    simp at e0 e1 e2
    rw [e0, e1, e2]
theorem lvl_ar {w : World} {p : Addr} {F : Nat → Prop} {c : Cfg} {sts : List LS} (h : ST w p F c sts) {n : Nat} {st : LS} (hs : sts[n]? = some st) : exactB c (n : Int) = st.ar := by
  obtain ⟨hr, hc, hlen, b, B0, hdr, vals, ts, rfl, hrow, hI, rfl⟩ := h
  obtain ⟨st2, v, Q, e1, e2, e3⟩ := hrow.at (j := n) ((List.getElem?_eq_some_iff.1 hs).1)
  rw [hs] at e1
  injection e1 with e1
  subst e1
  have h1 : ELV w v Q c (n : Int) st := hI.1 (elvT v Q c (n : Int) st) (List.mem_cons_of_mem _ (List.mem_cons_of_mem _ (List.mem_of_getElem? e3)))
  exact h1.1
theorem fload (p : Addr) (F : Nat → Prop) (sts : List LS) (n : Nat) (st : LS) (ad : Addr) (N cap : Nat) (zs : List Int) (sts2 : List LS) (w : World) (h : ST w p F lF sts) (hst : sts[n]? = some st) (hrd : Rd .i64 w (some ad) zs) (hl : zs.length = N) (hz : In64 zs) (hN : N = st.fl.length) (hap : ¬ F ad.block) (hx : exactB lF n = true) (h2 : sts.set n (.A zs) = sts2) :
    Calls Try.prog 6 #[.pointer (some p), .int .i64 n, .slice (some ad) N cap] w fun e w' => e = .returned (.bool true) ∧ ∃ F', ST w' p F' lF sts2 ∧ Kept F w w' ∧ (∀ q, F' q → F q ∨ w.heap.size ≤ q) := by
  refine (cs_load p F lF sts n st ad N cap zs w h hst hrd hl hz hN hap).mono ?_
  rintro e w' ⟨rfl, F', st', h1, h3, h4, h5⟩
  have hn := (List.getElem?_eq_some_iff.1 hst).1
  have ha := lvl_ar h1 (n := n) (st := st') (by rw [List.getElem?_set, if_pos rfl, if_pos hn])
  rw [hx] at ha
  cases st' with
  | A L =>
    have h3 : L = zs := h3
    subst h3
    exact ⟨rfl, F', by rw [← h2]; exact h1, h4, h5⟩
  | S L => cases ha
theorem in64_4 (x0 x1 x2 x3 : Int) (z0 : -9223372036854775808 ≤ x0 ∧ x0 ≤ 9223372036854775807) (z1 : -9223372036854775808 ≤ x1 ∧ x1 ≤ 9223372036854775807) (z2 : -9223372036854775808 ≤ x2 ∧ x2 ≤ 9223372036854775807) (z3 : -9223372036854775808 ≤ x3 ∧ x3 ≤ 9223372036854775807) : In64 [x0, x1, x2, x3] := fun v hv => by
  simp at hv
  rcases hv with rfl | rfl | rfl | rfl <;> assumption
theorem in64_2 {x y : Int} (hx : -9223372036854775808 ≤ x ∧ x ≤ 9223372036854775807) (hy : -9223372036854775808 ≤ y ∧ y ≤ 9223372036854775807) : In64 [x, y] := fun v hv => by
  simp at hv
  rcases hv with rfl | rfl <;> assumption
theorem fl_0 (p : Addr) (F : Nat → Prop) (x0 x1 x2 x3 : Int) (z0 : -9223372036854775808 ≤ x0 ∧ x0 ≤ 9223372036854775807) (z1 : -9223372036854775808 ≤ x1 ∧ x1 ≤ 9223372036854775807) (z2 : -9223372036854775808 ≤ x2 ∧ x2 ≤ 9223372036854775807) (z3 : -9223372036854775808 ≤ x3 ∧ x3 ≤ 9223372036854775807) (g cap : Nat) (w : World) (h : ST w p F lF (stsOf lF [])) (hrd : Rd .i64 w (some ⟨g, 0, none⟩) [x0, x1, x2, x3]) (hap : ¬ F g) :
    Calls Try.prog 6 #[.pointer (some p), .int .i64 0, .slice (some ⟨g, 0, none⟩) 4 cap] w fun e w' => e = .returned (.bool true) ∧ ∃ F', ST w' p F' lF (stF1 x0 x1 x2 x3) ∧ Kept F w w' ∧ (∀ q, F' q → F q ∨ w.heap.size ≤ q) := by
  rw [sF0] at h
  exact fload p F _ 0 _ ⟨g, 0, none⟩ 4 cap [x0, x1, x2, x3] _ w h rfl hrd rfl (in64_4 x0 x1 x2 x3 z0 z1 z2 z3) rfl hap (by decide) rfl
theorem fl_1 (p : Addr) (F : Nat → Prop) (x0 x1 x2 x3 : Int) (z0 : -9223372036854775808 ≤ x0 ∧ x0 ≤ 9223372036854775807) (z1 : -9223372036854775808 ≤ x1 ∧ x1 ≤ 9223372036854775807) (z2 : -9223372036854775808 ≤ x2 ∧ x2 ≤ 9223372036854775807) (z3 : -9223372036854775808 ≤ x3 ∧ x3 ≤ 9223372036854775807) (g cap : Nat) (w : World) (h : ST w p F lF (stF1 x0 x1 x2 x3)) (hrd : Rd .i64 w (some ⟨g, 0, none⟩) [x0, x3]) (hap : ¬ F g) :
    Calls Try.prog 6 #[.pointer (some p), .int .i64 1, .slice (some ⟨g, 0, none⟩) 2 cap] w fun e w' => e = .returned (.bool true) ∧ ∃ F', ST w' p F' lF (stF2 x0 x1 x2 x3) ∧ Kept F w w' ∧ (∀ q, F' q → F q ∨ w.heap.size ≤ q) := by
  exact fload p F _ 1 (.A [0, 0]) ⟨g, 0, none⟩ 2 cap [x0, x3] _ w h rfl hrd rfl (in64_2 z0 z3) rfl hap (by decide) rfl
theorem pcF (lo hi : Int) (h1 : lo ≤ hi) (h2 : hi < 4) : ptC2 lF lo hi = 0 := by
  unfold ptC2
  rw [lF_k, if_neg (by omega), if_neg (by omega)]
theorem ptsF (x0 x1 x2 x3 : Int) (lo hi : Int) (l : List (Nat × Nat)) (hc : Cov 2 (hi.toNat + 1) lo.toNat l) : parts lF (fun L i => spV lF (stF2 x0 x1 x2 x3) (L : Int) i) lo hi = l.map (fun p => spV lF (stF2 x0 x1 x2 x3) (p.1 : Int) ((p.2 : Nat) : Int)) := by
  unfold parts
  rw [covL_eq (n := lF.bt.toNat) hc]
theorem rgF (x0 x1 x2 x3 : Int) (lo hi v : Int) (ft : Bool) (l : List (Nat × Nat)) (hc : Cov 2 (hi.toNat + 1) lo.toNat l) (h1 : lo ≤ hi) (h2 : hi < 4) (hv : (l.map (fun p => spV lF (stF2 x0 x1 x2 x3) (p.1 : Int) ((p.2 : Nat) : Int))).sum = v) (hf : Wid.fit64 v = ft) :
    rgV lF (fun L i => spV lF (stF2 x0 x1 x2 x3) (L : Int) i) lo hi = (if ft = true then v else 0) ∧ rgC lF (fun L i => spV lF (stF2 x0 x1 x2 x3) (L : Int) i) lo hi = (if ft = true then 0 else 4) := by
  have h : rgC lF (fun L i => spV lF (stF2 x0 x1 x2 x3) (L : Int) i) lo hi = (if ft = true then 0 else 4) := by
    unfold rgC
    rw [if_pos (pcF lo hi h1 h2), ptsF x0 x1 x2 x3 lo hi l hc, hv, hf]
  refine ⟨?_, h⟩
  unfold rgV
  rw [h, ptsF x0 x1 x2 x3 lo hi l hc, hv]
  cases ft <;> rfl
theorem cvF0 : Cov 2 3 0 [(1, 0), (0, 2)] :=
  .cons (L := 1) (by unfold GL; decide) (.cons (lo := 2) (L := 0) (by unfold GL; decide) .nil)
theorem cvF1 : Cov 2 4 1 [(0, 1), (1, 1)] :=
  .cons (L := 0) (by unfold GL; decide) (.cons (lo := 2) (L := 1) (by unfold GL; decide) .nil)
theorem tn_F (w : World) : Calls Try.prog 5 #[.agg #[.int .i64 2, .int .i64 1, .int .i64 4, .int .i64 1, .int .u64 0]] w fun e w' => ∃ (p : Addr) (F : Nat → Prop), e = .returned (.tuple #[.pointer (some p), .int .i64 0]) ∧ ST w' p F lF (stsOf lF []) ∧ (∀ k, F k → w.heap.size ≤ k) ∧ Below w.heap.size w w' := cs_new lF w lF_ok lF_r
theorem tr_F (p : Addr) (F : Nat → Prop) (x0 x1 x2 x3 : Int) (lo hi v : Int) (ft : Bool) (l : List (Nat × Nat)) (w : World) (h : ST w p F lF (stF2 x0 x1 x2 x3)) (hc : Cov 2 (hi.toNat + 1) lo.toNat l) (h0 : 0 ≤ lo) (h1 : lo ≤ hi) (h2 : hi < 4) (hv : (l.map (fun p => spV lF (stF2 x0 x1 x2 x3) (p.1 : Int) ((p.2 : Nat) : Int))).sum = v) (hf : Wid.fit64 v = ft) :
    Calls Try.prog 7 #[.pointer (some p), .int .u64 lo, .int .u64 hi] w fun e w' => e = .returned (.tuple #[.int .i64 (if ft = true then v else 0), .int .i64 (if ft = true then 0 else 4)]) ∧ Below w.heap.size w w' := by
  have h3 := sp_range p F lF (stF2 x0 x1 x2 x3) lo hi w h h0 (by omega) (by omega) (by omega)
  have h4 := rgF x0 x1 x2 x3 lo hi v ft l hc h1 h2 hv hf
  rw [h4.1, h4.2] at h3
  exact h3
theorem smF0 (x0 x1 x2 x3 : Int) : ([(1, 0), (0, 2)].map (fun p : Nat × Nat => spV lF (stF2 x0 x1 x2 x3) (p.1 : Int) ((p.2 : Nat) : Int))).sum = x0 + x2 := by
  show x0 + (x2 + 0) = x0 + x2
  omega
theorem smF1 (x0 x1 x2 x3 : Int) : ([(0, 1), (1, 1)].map (fun p : Nat × Nat => spV lF (stF2 x0 x1 x2 x3) (p.1 : Int) ((p.2 : Nat) : Int))).sum = x1 + x3 := by
  show x1 + (x3 + 0) = x1 + x3
  omega
theorem smO0 (x0 x1 x2 x3 : Int) : ([(0, 0)].map (fun p : Nat × Nat => spV lF (stF2 x0 x1 x2 x3) (p.1 : Int) ((p.2 : Nat) : Int))).sum = x0 := by
  show x0 + 0 = x0
  omega
theorem smO1 (x0 x1 x2 x3 : Int) : ([(0, 1)].map (fun p : Nat × Nat => spV lF (stF2 x0 x1 x2 x3) (p.1 : Int) ((p.2 : Nat) : Int))).sum = x1 := by
  show x1 + 0 = x1
  omega
theorem smO2 (x0 x1 x2 x3 : Int) : ([(0, 2)].map (fun p : Nat × Nat => spV lF (stF2 x0 x1 x2 x3) (p.1 : Int) ((p.2 : Nat) : Int))).sum = x2 := by
  show x2 + 0 = x2
  omega
theorem smO3 (x0 x1 x2 x3 : Int) : ([(0, 3)].map (fun p : Nat × Nat => spV lF (stF2 x0 x1 x2 x3) (p.1 : Int) ((p.2 : Nat) : Int))).sum = x3 := by
  show x3 + 0 = x3
  omega
end Go.Proofs.Ytbifihhfoanmgaa.Spn
