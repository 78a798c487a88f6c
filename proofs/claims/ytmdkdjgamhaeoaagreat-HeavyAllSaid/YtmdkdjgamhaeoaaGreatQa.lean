/- Texts that statements lean on, put together: Law, Grow, Row, Kept, Thing, Things, Bits, FldMath, FldFermat, FldFold, FldMore, FldAlg, FldOne, FldPow, FldRef, FldRefInv, OrdMath. -/
import Derived.Test.YtmdkdjgamhaeoaaGreatRows
import Derived.WalkKit
import Derived.ProofKit
import Derived.OpenShut
import Derived.DataShut
import Derived.Lib.SmallJoins
import Derived.Handy
import Derived.WalkSmall
import Derived.Deep.Draws
import Derived.WalkSpells
import Derived.Laws.AppendOwnNone
import Derived.Deep.AppendLies
import Derived.Lib.Hide
import Derived.Deep.MidRow
import Derived.Laws.BitsAllLaws
import Derived.WalkMore
import Derived.Deep.LoopGhost
/- From a law's walk to its row, whatever its parameters are: a law that returns true and leaves what was there. -/
namespace Go.Proofs.YtmdkdjgamhaeoaaGreat.Lw
open Go Go.RowKit Go.ChangeShapes Go.WideShapes Go.ChangeAt
set_option linter.unusedVariables false
variable {H : Type} {enc : TypeId × Value → H}

theorem trodAll_stays {P : Program} {W W' : World} (hl : laidOutB P = true) (hb : Below W.heap.size W W') : ∀ (ts : List TypeId) (vs : List Value) (ds : List (DataW H)) (ps : List MemPlace),
    ts.all (fun t => P.readableRec t && decide (t < P.types.size)) = true → DataW.TrodAll enc P W 0 (fun _ => true) true ts vs ds ps → (∀ x ∈ ps, x.block < W.heap.size) →
    DataW.TrodAll enc P W' 0 (fun b => decide (b < W.heap.size)) true ts vs ds ps
  | [], vs, ds, ps, _, h, _ => by
    obtain ⟨rfl, rfl, rfl⟩ := trodAll_nil h
    exact trodAll_mk0
  | t :: ts, vs, ds, ps, hr, h, hlt => by
    obtain ⟨v, vs', d, ds', p, q, rfl, rfl, rfl, h0, h1⟩ := trodAll_cons h
    simp only [List.all_cons, Bool.and_eq_true, decide_eq_true_eq] at hr
    exact trodAll_cons_mk (Below.trod hl hr.1.1 hr.1.2 h0 hb (fun x hx => hlt x (List.mem_append.2 (Or.inl hx))))
      (trodAll_stays hl hb ts vs' ds' q hr.2 h1 (fun x hx => hlt x (List.mem_append.2 (Or.inr hx))))

theorem trodAll_len {P : Program} {W : World} {b : Nat} {sp : Nat → Bool} {hd : Bool} : ∀ (ts : List TypeId) (vs : List Value) (ds : List (DataW H)) (ps : List MemPlace), DataW.TrodAll enc P W b sp hd ts vs ds ps → ds.length = ts.length
  | [], vs, ds, ps, h => by
    obtain ⟨rfl, rfl, rfl⟩ := trodAll_nil h
    rfl
  | t :: ts, vs, ds, ps, h => by
    obtain ⟨v, vs', d, ds', p, q, rfl, rfl, rfl, h0, h1⟩ := trodAll_cons h
    rw [List.length_cons, List.length_cons, trodAll_len ts vs' ds' q h1]

theorem lifted {C : Checked} {f : FuncId} {fn : Func} {s : ChangeSpec} {conds : List PathCond} {B : TypeId} (own : ownKnob C.prog.godebug = none) (os : Os) (started : os.Started)
    (hnin : C.prog.inits.idxOf? f = none) (hf : C.prog.funcs[f]? = some fn)
    (wit : ∃ (w : World) (tape : _) (i : Input), w.os = os ∧ World.Shaped C.prog (w.forCall tape i) ∧ i.vars = [] ∧ Input.okWide C.prog (w.forCall tape i) Reach.any w.heap.size f i ∧
      ChangeSpec.pre6 enc C.prog fn s conds false (w.forCall tape i).memory i.args ∧ ({} : Assume).holds C.prog (lone (Frame.enter C.prog f i.args CallKind.normal) [] (w.forCall tape i)))
    (hvars : s.vars = []) (hB : C.prog.underlying B = some .bool) (hres : fn.resultTypes = #[B]) (hlaid : laidOutB C.prog = true)
    (hro : fn.params.toList.all (fun t => C.prog.readableRec t && decide (t < C.prog.types.size)) = true)
    (hspec : ∀ ds : List (DataW H), ds.length = fn.params.toList.length → s.fn H ds = { results := [.lit (.bool true)], args := ds })
    (walk : ∀ (W : World) (base : Nat) (args : Array Value) (ds : List (DataW H)) (p : List MemPlace), (∀ (j : Nat) t v, fn.params[j]? = some t → args[j]? = some v → Value.okWide C.prog W .any base t v) →
      DataW.TrodAll enc C.prog W 0 (fun _ => true) true fn.params.toList args.toList ds p → Calls C.prog f args W fun e W' => e = .returned (.bool true) ∧ Below W.heap.size W W') :
    ReturnsInHanded {} C os f .any (s.pre6 enc C.prog fn conds false) (s.post enc C.prog fn false true false false) := by
  refine returnsInHanded_of_change (C := C) own started hnin hf wit ?_
  intro W base args ds gs before hval hW hcnd _
  have hW' := hW
  obtain ⟨p, q, hA, hV, rfl, hfz, hnd⟩ := hW
  rw [hvars] at hV
  obtain ⟨rfl, rfl⟩ := trodVars_none hV
  have hlt : ∀ x ∈ p, x.block < W.heap.size := fun x hx => by simpa using hW'.lt x (by simpa using hx)
  have hsp := hspec ds (trodAll_len _ _ _ _ hA)
  refine (walk W base args ds p hval hA).mono fun e W' ⟨he, hb⟩ => ?_
  subst he
  refine ⟨_, rfl, ds, [], p ++ [], [], p, [], hW', ?_, ?_, ?_, hb.frame _, fun h => by cases h⟩
  · rw [List.append_nil, hsp, hres]
    exact trodAll_cons_mk (shut_bool hB true) trodAll_mk0
  · rw [List.append_nil, hsp]
    exact trodAll_stays hlaid hb _ _ _ _ hro hA hlt
  · rw [List.append_nil, hsp, hvars]
    rfl
theorem wf_u64 {x : Int} (h : (Lit.int .u64 x).wf = true) : 0 ≤ x ∧ x ≤ 18446744073709551615 := by
  have := (Lit.wf_int_iff .u64 x).1 h
  simpa [IntKind.min, IntKind.max, IntKind.bits, IntKind.signed] using this
theorem wf_i64 {x : Int} (h : (Lit.int .i64 x).wf = true) : -9223372036854775808 ≤ x ∧ x ≤ 9223372036854775807 := by
  have := (Lit.wf_int_iff .i64 x).1 h
  simpa [IntKind.min, IntKind.max, IntKind.bits, IntKind.signed] using this
end Go.Proofs.YtmdkdjgamhaeoaaGreat.Lw
/- A world that a call has grown, written out: what was there, new blocks behind it, and a count of draws. -/
namespace Go.Proofs.YtmdkdjgamhaeoaaGreat.Lw
open Go Go.RowKit
def grow (w : World) (bs : Array Obj) (d : Nat) : World := { w with heap := w.heap ++ bs, drawn := d }
theorem below_grow {w w' : World} (h : Below w.heap.size w w') : ∃ (bs : Array Obj) (d : Nat), w' = grow w bs d := by
  obtain ⟨heap, tape, drawn, os, output⟩ := w
  obtain ⟨heap', tape', drawn', os', output'⟩ := w'
  obtain ⟨h1, h2, h3, h4, h5⟩ := h
  simp only at h1 h2 h3 h4 h5
  subst h1 h2 h3
  refine ⟨heap'.extract heap.size heap'.size, drawn', ?_⟩
  simp only [grow, World.mk.injEq, and_true]
  apply Array.ext_getElem?
  intro i
  rw [Array.getElem?_append]
  split
  · rename_i hi; exact h5 i hi
  · rename_i hi
    rw [Array.getElem?_extract]
    split
    · congr 1; omega
    · rw [Array.getElem?_eq_none (by omega)]
theorem grow_below (w : World) (bs : Array Obj) (d : Nat) : Below w.heap.size w (grow w bs d) :=
  ⟨rfl, rfl, rfl, by simp [grow], fun k hk => by simp only [grow]; rw [Array.getElem?_append, if_pos hk]⟩
theorem below_over {w0 w : World} (h : Below w0.heap.size w0 w) (bs : Array Obj) (d : Nat) : Below w0.heap.size w0 (grow w bs d) :=
  h.trans ((grow_below w bs d).mono h.size)
@[simp, go_sem] theorem size_grow (w : World) (bs : Array Obj) (d : Nat) : (grow w bs d).heap.size = w.heap.size + bs.size := by simp [grow]
@[go_sem] theorem cell_grow (w : World) (bs : Array Obj) (d n i : Nat) (h : n < w.heap.size) : (grow w bs d).cell? ⟨n, i, none⟩ = w.cell? ⟨n, i, none⟩ := (grow_below w bs d).cell (p := ⟨n, i, none⟩) h
@[go_sem] theorem frozen_grow (w : World) (bs : Array Obj) (d n i : Nat) (h : n < w.heap.size) : (grow w bs d).frozen? ⟨n, i, none⟩ = w.frozen? ⟨n, i, none⟩ := (grow_below w bs d).frozen (p := ⟨n, i, none⟩) h
@[go_sem] theorem setCell_grow (w : World) (bs : Array Obj) (d n i : Nat) (v : Value) (h : n < w.heap.size) : (grow w bs d).setCell ⟨n, i, none⟩ v = grow (w.setCell ⟨n, i, none⟩ v) bs d := by
  simp only [grow, World.setCell, World.mk.injEq, and_true]
  apply Array.ext_getElem?
  intro j
  simp only [Array.getElem?_modify, Array.getElem?_append, Array.size_modify]
  by_cases hn : n = j
  · subst hn; simp only [if_pos h, if_true]
  · simp only [if_neg hn]
@[go_sem] theorem drew_grow (w : World) (bs : Array Obj) (d : Nat) : (grow w bs d).drew = grow w bs (d + 1) := rfl
@[go_sem] theorem drewN_grow (w : World) (bs : Array Obj) (d n : Nat) : (grow w bs d).drewN n = grow w bs (d + n) := rfl
@[go_sem] theorem grow_drew (w : World) (bs : Array Obj) (d : Nat) : grow w.drew bs d = grow w bs d := rfl
@[go_sem] theorem grow_drewN (w : World) (bs : Array Obj) (d n : Nat) : grow (w.drewN n) bs d = grow w bs d := rfl
@[go_sem] theorem grow_grow (w : World) (bs cs : Array Obj) (d e : Nat) : grow (grow w bs d) cs e = grow w (bs ++ cs) e := by simp [grow, Array.append_assoc]
@[go_sem] theorem alloc_drewN (w : World) (n : Nat) (o : Obj) : (w.drewN n).alloc o = (w.alloc o).drewN n := rfl
@[go_sem] theorem setCell_drewN (w : World) (n : Nat) (a : Addr) (v : Value) : (w.drewN n).setCell a v = (w.setCell a v).drewN n := rfl
@[simp, go_sem] theorem lt_1 (x z0 : Nat) : x < x + 1 + z0 := by omega
@[simp, go_sem] theorem ne_1 (x z0 : Nat) : (x = x + 1 + z0) = False := by simp; omega
@[simp, go_sem] theorem en_1 (x z0 : Nat) : (x + 1 + z0 = x) = False := by simp; omega
@[simp, go_sem] theorem lt_2 (x z0 z1 : Nat) : x < x + 1 + z0 + z1 := by omega
@[simp, go_sem] theorem ne_2 (x z0 z1 : Nat) : (x = x + 1 + z0 + z1) = False := by simp; omega
@[simp, go_sem] theorem en_2 (x z0 z1 : Nat) : (x + 1 + z0 + z1 = x) = False := by simp; omega
@[simp, go_sem] theorem lt_3 (x z0 z1 z2 : Nat) : x < x + 1 + z0 + z1 + z2 := by omega
@[simp, go_sem] theorem ne_3 (x z0 z1 z2 : Nat) : (x = x + 1 + z0 + z1 + z2) = False := by simp; omega
@[simp, go_sem] theorem en_3 (x z0 z1 z2 : Nat) : (x + 1 + z0 + z1 + z2 = x) = False := by simp; omega
@[simp, go_sem] theorem lt_4 (x z0 z1 z2 z3 : Nat) : x < x + 1 + z0 + z1 + z2 + z3 := by omega
@[simp, go_sem] theorem ne_4 (x z0 z1 z2 z3 : Nat) : (x = x + 1 + z0 + z1 + z2 + z3) = False := by simp; omega
@[simp, go_sem] theorem en_4 (x z0 z1 z2 z3 : Nat) : (x + 1 + z0 + z1 + z2 + z3 = x) = False := by simp; omega
@[simp, go_sem] theorem lt_5 (x z0 z1 z2 z3 z4 : Nat) : x < x + 1 + z0 + z1 + z2 + z3 + z4 := by omega
@[simp, go_sem] theorem ne_5 (x z0 z1 z2 z3 z4 : Nat) : (x = x + 1 + z0 + z1 + z2 + z3 + z4) = False := by simp; omega
@[simp, go_sem] theorem en_5 (x z0 z1 z2 z3 z4 : Nat) : (x + 1 + z0 + z1 + z2 + z3 + z4 = x) = False := by simp; omega
@[simp, go_sem] theorem lt_6 (x z0 z1 z2 z3 z4 z5 : Nat) : x < x + 1 + z0 + z1 + z2 + z3 + z4 + z5 := by omega
@[simp, go_sem] theorem ne_6 (x z0 z1 z2 z3 z4 z5 : Nat) : (x = x + 1 + z0 + z1 + z2 + z3 + z4 + z5) = False := by simp; omega
@[simp, go_sem] theorem en_6 (x z0 z1 z2 z3 z4 z5 : Nat) : (x + 1 + z0 + z1 + z2 + z3 + z4 + z5 = x) = False := by simp; omega
@[simp, go_sem] theorem lt_7 (x z0 z1 z2 z3 z4 z5 z6 : Nat) : x < x + 1 + z0 + z1 + z2 + z3 + z4 + z5 + z6 := by omega
@[simp, go_sem] theorem ne_7 (x z0 z1 z2 z3 z4 z5 z6 : Nat) : (x = x + 1 + z0 + z1 + z2 + z3 + z4 + z5 + z6) = False := by simp; omega
@[simp, go_sem] theorem en_7 (x z0 z1 z2 z3 z4 z5 z6 : Nat) : (x + 1 + z0 + z1 + z2 + z3 + z4 + z5 + z6 = x) = False := by simp; omega
@[simp, go_sem] theorem lt_8 (x z0 z1 z2 z3 z4 z5 z6 z7 : Nat) : x < x + 1 + z0 + z1 + z2 + z3 + z4 + z5 + z6 + z7 := by omega
@[simp, go_sem] theorem ne_8 (x z0 z1 z2 z3 z4 z5 z6 z7 : Nat) : (x = x + 1 + z0 + z1 + z2 + z3 + z4 + z5 + z6 + z7) = False := by simp; omega
@[simp, go_sem] theorem en_8 (x z0 z1 z2 z3 z4 z5 z6 z7 : Nat) : (x + 1 + z0 + z1 + z2 + z3 + z4 + z5 + z6 + z7 = x) = False := by simp; omega
@[simp, go_sem] theorem lt_9 (x z0 z1 z2 z3 z4 z5 z6 z7 z8 : Nat) : x < x + 1 + z0 + z1 + z2 + z3 + z4 + z5 + z6 + z7 + z8 := by omega
@[simp, go_sem] theorem ne_9 (x z0 z1 z2 z3 z4 z5 z6 z7 z8 : Nat) : (x = x + 1 + z0 + z1 + z2 + z3 + z4 + z5 + z6 + z7 + z8) = False := by simp; omega
@[simp, go_sem] theorem en_9 (x z0 z1 z2 z3 z4 z5 z6 z7 z8 : Nat) : (x + 1 + z0 + z1 + z2 + z3 + z4 + z5 + z6 + z7 + z8 = x) = False := by simp; omega
@[simp, go_sem] theorem lt_10 (x z0 z1 z2 z3 z4 z5 z6 z7 z8 z9 : Nat) : x < x + 1 + z0 + z1 + z2 + z3 + z4 + z5 + z6 + z7 + z8 + z9 := by omega
@[simp, go_sem] theorem ne_10 (x z0 z1 z2 z3 z4 z5 z6 z7 z8 z9 : Nat) : (x = x + 1 + z0 + z1 + z2 + z3 + z4 + z5 + z6 + z7 + z8 + z9) = False := by simp; omega
@[simp, go_sem] theorem en_10 (x z0 z1 z2 z3 z4 z5 z6 z7 z8 z9 : Nat) : (x + 1 + z0 + z1 + z2 + z3 + z4 + z5 + z6 + z7 + z8 + z9 = x) = False := by simp; omega
@[simp, go_sem] theorem lt_11 (x z0 z1 z2 z3 z4 z5 z6 z7 z8 z9 z10 : Nat) : x < x + 1 + z0 + z1 + z2 + z3 + z4 + z5 + z6 + z7 + z8 + z9 + z10 := by omega
@[simp, go_sem] theorem ne_11 (x z0 z1 z2 z3 z4 z5 z6 z7 z8 z9 z10 : Nat) : (x = x + 1 + z0 + z1 + z2 + z3 + z4 + z5 + z6 + z7 + z8 + z9 + z10) = False := by simp; omega
@[simp, go_sem] theorem en_11 (x z0 z1 z2 z3 z4 z5 z6 z7 z8 z9 z10 : Nat) : (x + 1 + z0 + z1 + z2 + z3 + z4 + z5 + z6 + z7 + z8 + z9 + z10 = x) = False := by simp; omega
@[simp, go_sem] theorem lt_12 (x z0 z1 z2 z3 z4 z5 z6 z7 z8 z9 z10 z11 : Nat) : x < x + 1 + z0 + z1 + z2 + z3 + z4 + z5 + z6 + z7 + z8 + z9 + z10 + z11 := by omega
@[simp, go_sem] theorem ne_12 (x z0 z1 z2 z3 z4 z5 z6 z7 z8 z9 z10 z11 : Nat) : (x = x + 1 + z0 + z1 + z2 + z3 + z4 + z5 + z6 + z7 + z8 + z9 + z10 + z11) = False := by simp; omega
@[simp, go_sem] theorem en_12 (x z0 z1 z2 z3 z4 z5 z6 z7 z8 z9 z10 z11 : Nat) : (x + 1 + z0 + z1 + z2 + z3 + z4 + z5 + z6 + z7 + z8 + z9 + z10 + z11 = x) = False := by simp; omega
@[simp, go_sem] theorem lt_13 (x z0 z1 z2 z3 z4 z5 z6 z7 z8 z9 z10 z11 z12 : Nat) : x < x + 1 + z0 + z1 + z2 + z3 + z4 + z5 + z6 + z7 + z8 + z9 + z10 + z11 + z12 := by omega
@[simp, go_sem] theorem ne_13 (x z0 z1 z2 z3 z4 z5 z6 z7 z8 z9 z10 z11 z12 : Nat) : (x = x + 1 + z0 + z1 + z2 + z3 + z4 + z5 + z6 + z7 + z8 + z9 + z10 + z11 + z12) = False := by simp; omega
@[simp, go_sem] theorem en_13 (x z0 z1 z2 z3 z4 z5 z6 z7 z8 z9 z10 z11 z12 : Nat) : (x + 1 + z0 + z1 + z2 + z3 + z4 + z5 + z6 + z7 + z8 + z9 + z10 + z11 + z12 = x) = False := by simp; omega
theorem grow_nil (w : World) : grow w #[] w.drawn = w := by simp [grow]
/-- The end of a walk: what was there is as it was. -/
theorem below_alloc {w w' : World} (h : Below w.heap.size w w') (o : Obj) : Below w.heap.size w (w'.alloc o) := h.alloc h.size o
end Go.Proofs.YtmdkdjgamhaeoaaGreat.Lw
/- Rows of numbers behind a slice: what is read of them, rows that a call owns, and lists that a law is handed. For every stage. -/
namespace Go.Proofs.YtmdkdjgamhaeoaaGreat.Lw
open Go Go.RowKit
set_option linter.unusedVariables false
/-- The numbers zs lie behind the address A. -/
def Rd (k : IntKind) (w : World) (A : Option Addr) (zs : List Int) : Prop := ∀ j v, zs[j]? = some v → ∃ ad, A = some ad ∧ w.cell? (ad.add j) = some (.int k v)
theorem cell_lt {w : World} {a : Addr} {v : Value} (h : w.cell? a = some v) : a.block < w.heap.size := by
  rcases Nat.lt_or_ge a.block w.heap.size with h1 | h1
  · exact h1
  · have : w.heap[a.block]? = none := by simp [h1]
    simp [World.cell?, this] at h
theorem cell_up {w w1 : World} {a : Addr} {v : Value} (h : w.cell? a = some v) (hb : Below w.heap.size w w1) : w1.cell? a = some v := by
  rw [hb.cell (cell_lt h)]; exact h
theorem Rd.up {k : IntKind} {w w1 : World} {A : Option Addr} {zs : List Int} (h : Rd k w A zs) (hb : Below w.heap.size w w1) : Rd k w1 A zs := by
  intro j v hv
  obtain ⟨ad, e, hc⟩ := h j v hv
  exact ⟨ad, e, cell_up hc hb⟩
theorem Rd.at {k : IntKind} {w : World} {ad : Addr} {zs : List Int} (h : Rd k w (some ad) zs) {j : Nat} {v : Int} (hv : zs[j]? = some v) : w.cell? (ad.add j) = some (.int k v) := by
  obtain ⟨ad2, e, hc⟩ := h j v hv
  injection e with e
  subst e
  exact hc
theorem Rd.some_of {k : IntKind} {w : World} {A : Option Addr} {zs : List Int} (h : Rd k w A zs) (hl : 0 < zs.length) : ∃ ad, A = some ad := by
  obtain ⟨ad, e, _⟩ := h 0 zs[0] (List.getElem?_eq_getElem hl)
  exact ⟨ad, e⟩
theorem add_add' (a : Addr) (i j : Nat) : (a.add i).add j = a.add (i + j) := by
  unfold Addr.add
  by_cases hi : i = 0 <;> by_cases hj : j = 0 <;> simp [hi, hj, Nat.add_assoc]
theorem Rd.take {k : IntKind} {w : World} {A : Option Addr} {zs : List Int} (h : Rd k w A zs) (m : Nat) : Rd k w A (zs.take m) := by
  intro j v hv
  rw [List.getElem?_take] at hv
  split at hv
  · exact h j v hv
  · cases hv
theorem Rd.drop {k : IntKind} {w : World} {ad : Addr} {zs : List Int} (h : Rd k w (some ad) zs) (m : Nat) : Rd k w (some (ad.add m)) (zs.drop m) := by
  intro j v hv
  rw [List.getElem?_drop] at hv
  exact ⟨_, rfl, by rw [add_add']; exact h.at hv⟩
/-- What 'append' reads. -/
theorem Rd.news {k : IntKind} {w w1 : World} {ad : Addr} {zs : List Int} (h : Rd k w (some ad) zs) (hb : Below w.heap.size w w1) : ∀ j u, (zs.map (Value.int k))[j]? = some u → w1.cell? (ad.add j) = some u := by
  intro j u hj
  rw [List.getElem?_map] at hj
  obtain ⟨v, hv, rfl⟩ := Option.map_eq_some_iff.1 hj
  exact cell_up (h.at hv) hb
theorem one_ints (k : IntKind) (l : List Int) : ∀ u ∈ l.map (Value.int k), u.oneCell' = true := by
  intro u hu
  obtain ⟨v, _, rfl⟩ := List.mem_map.1 hu
  rfl
theorem own_empty (w : World) (e : TypeId) (size base : Nat) (hb : base ≤ w.heap.size) : (w.alloc (.cells #[] e)).ownsRow base e size (.slice (some ⟨w.heap.size, 0, none⟩) 0 0) 0 [] :=
  ⟨by simp, .inr ⟨w.heap.size, 0, #[], rfl, hb, heap_alloc_new w _, Nat.le_refl _, by simp, by simp, by simp⟩⟩
theorem app_below {X w2 : World} {o : Obj} {g : Nat} (h : (X.alloc o).grownBy w2 (some g)) (hg : X.heap.size ≤ g) : Below X.heap.size X w2 :=
  ((Below.refl _ _).alloc (Nat.le_refl _) o).grown h (by simp) (fun k hk => by injection hk with hk; omega)
theorem own_rd {k : IntKind} {w : World} {base : Nat} {e : TypeId} {v : Value} {n : Nat} {zs : List Int} (h : w.ownsRow base e 1 v n (zs.map (Value.int k))) : ∃ A cap, v = .slice A n cap ∧ Rd k w A zs ∧ n ≤ cap ∧ cap ≤ maxLen ∧ (A = none → n = 0 ∧ cap = 0) := by
  have h0 := h
  obtain ⟨h1, h2⟩ := h
  rcases h2 with ⟨rfl, rfl⟩ | ⟨g, cap, cur, rfl, hbase, hh, hl, hm, _⟩
  · refine ⟨none, 0, rfl, ?_, Nat.le_refl _, by simp, fun _ => ⟨rfl, rfl⟩⟩
    intro j v hk
    have : zs = [] := by simpa using h1
    subst this
    simp at hk
  · refine ⟨some ⟨g, 0, none⟩, cap, rfl, ?_, hl, hm, fun h => by cases h⟩
    intro j v hk
    exact ⟨_, rfl, h0.cells (g := g) rfl j _ (by rw [List.getElem?_map, hk]; rfl)⟩
def In64 (zs : List Int) : Prop := ∀ v ∈ zs, -9223372036854775808 ≤ v ∧ v ≤ 9223372036854775807
theorem in64_take {zs : List Int} (h : In64 zs) (m : Nat) : In64 (zs.take m) := fun v hv => h v (List.mem_of_mem_take hv)
theorem in64_drop {zs : List Int} (h : In64 zs) (m : Nat) : In64 (zs.drop m) := fun v hv => h v (List.mem_of_mem_drop hv)
theorem In64.at {zs : List Int} (h : In64 zs) {j : Nat} {v : Int} (hv : zs[j]? = some v) : -9223372036854775808 ≤ v ∧ v ≤ 9223372036854775807 := h v (List.mem_of_getElem? hv)
/-- 'append' onto a row that the call owns (not nil), of whatever slice of numbers: nil too: at the operation. -/
theorem app_wp {P : Program} {w : World} {o : Oper} {a : Act} {K : Act → World → Prop} {Q : Exit → Act → World → Prop} (k : IntKind) (s x : Operand) (t : TypeId)
    (ho : o.op = .call { callee := .builtin .append, args := #[s, x], argTypes := #[t, t] })
    (base : Nat) (e : TypeId) (i : TypeInfo) (bytes : Nat) (ht : P.underlying t = some (.slice e)) (hi : P.info? e = some i) (hz : i.zero = some (.int k 0)) (hsize : i.size = 1) (hby : i.bytes = bytes)
    (v : Value) (n : Nat) (xs : List Int) (hs : a.eval s = v) (hown : w.ownsRow base e 1 v n (xs.map (Value.int k))) (hv : v ≠ .slice none 0 0)
    (A : Option Addr) (m c : Nat) (zs : List Int) (hx : a.eval x = .slice A m c) (hA : A = none → m = 0 ∧ c = 0) (hl : zs.length = m) (hr : Rd k w A zs) (h63 : n + m ≤ maxLen) (hbytes : (n + m) * bytes ≤ 140737488355328) (hbase : base ≤ w.heap.size)
    (h : ∀ A' cap' w', w'.ownsRow base e 1 (.slice (some A') (n + m) cap') (n + m) ((xs ++ zs).map (Value.int k)) → w.grownBy w' v.ownBlock → Rd k w' (some A') (xs ++ zs) → n + m ≤ cap' → cap' ≤ maxLen → K (a.put o.dst (.slice (some A') (n + m) cap')) w') :
    o.wp P a w K Q := by
  cases A with
  | none =>
    obtain ⟨rfl, rfl⟩ := hA rfl
    obtain rfl : zs = [] := List.eq_nil_of_length_eq_zero hl
    obtain ⟨A', cap', hv', hrd, h1, h2, h3⟩ := own_rd hown
    have hrun := run_append_owned_none (P := P) (w := w) base t o.type e i 1 ht hi v n _ hown
    cases A' with
    | none => obtain ⟨rfl, rfl⟩ := h3 rfl; exact absurd hv' hv
    | some A' =>
      have hh := h A' cap' w (by rw [List.append_nil]; have h5 := hown; rw [hv'] at h5; exact h5) ⟨rfl, rfl, rfl, Nat.le_refl _, fun _ _ _ => rfl⟩ (by rw [List.append_nil]; exact hrd) h1 h2
      unfold Oper.wp
      simp [execOp, ho, resolve, invoke, builtin, hs, hx, hrun, Result.andThen]
      rw [hv']
      exact hh
  | some ad =>
    refine wp_append_own w s x t ho base e i (.int k 0) 1 bytes ht hi hz hsize hby rfl (by decide) v n _ hs hown ad m c (zs.map (Value.int k)) hx (by simp; omega) (hr.news (Below.refl _ _)) (one_ints _ _) h63 hbytes hbase ?_
    intro v' w' hown2 hgrow hnil
    rw [← List.map_append] at hown2
    obtain ⟨A', cap', rfl, hrd, h1, h2, h3⟩ := own_rd hown2
    cases A' with
    | none =>
      obtain ⟨h4, rfl⟩ := h3 rfl
      rw [h4] at hnil
      exact absurd (hnil.1 rfl).1 hv
    | some A' => exact h A' cap' w' hown2 hgrow hrd h1 h2
/-- .. at the list of a plain region's operations. -/
theorem app_any {P : Program} {w : World} {ops : Array Oper} {rest : List Oper} {o : Oper} {a : Act} {Q : Exit → Act → World → Prop} (k : IntKind) (hgd : o.guard = none) (s x : Operand) (t : TypeId)
    (ho : o.op = .call { callee := .builtin .append, args := #[s, x], argTypes := #[t, t] })
    (base : Nat) (e : TypeId) (i : TypeInfo) (bytes : Nat) (ht : P.underlying t = some (.slice e)) (hi : P.info? e = some i) (hz : i.zero = some (.int k 0)) (hsize : i.size = 1) (hby : i.bytes = bytes)
    (v : Value) (n : Nat) (xs : List Int) (hs : a.eval s = v) (hown : w.ownsRow base e 1 v n (xs.map (Value.int k))) (hv : v ≠ .slice none 0 0)
    (A : Option Addr) (m c : Nat) (zs : List Int) (hx : a.eval x = .slice A m c) (hA : A = none → m = 0 ∧ c = 0) (hl : zs.length = m) (hr : Rd k w A zs) (h63 : n + m ≤ maxLen) (hbytes : (n + m) * bytes ≤ 140737488355328) (hbase : base ≤ w.heap.size)
    (h : ∀ A' cap' w', w'.ownsRow base e 1 (.slice (some A') (n + m) cap') (n + m) ((xs ++ zs).map (Value.int k)) → w.grownBy w' v.ownBlock → Rd k w' (some A') (xs ++ zs) → n + m ≤ cap' → cap' ≤ maxLen → wpList P ops Q rest (a.put o.dst (.slice (some A') (n + m) cap')) w') :
    wpList P ops Q (o :: rest) a w :=
  wpList_plain hgd fun _ hK => app_wp k s x t ho base e i bytes ht hi hz hsize hby v n xs hs hown hv A m c zs hx hA hl hr h63 hbytes hbase fun A' cap' w' g1 g2 g3 g4 g5 => hK _ _ (h A' cap' w' g1 g2 g3 g4 g5)
theorem below_call {B : Nat} {W0 wa w1 : World} (h : Below B W0 wa) (hb : Below wa.heap.size wa w1) (hB : B ≤ W0.heap.size) : Below B W0 w1 :=
  h.trans (hb.mono (Nat.le_trans hB h.size))
theorem own_ge {w : World} {base : Nat} {e : TypeId} {size : Nat} {v : Value} {n : Nat} {xs : List Value} (h : w.ownsRow base e size v n xs) : ∀ k, v.ownBlock = some k → base ≤ k := by
  obtain ⟨_, h2⟩ := h
  rcases h2 with ⟨rfl, _⟩ | ⟨g, cap, cur, rfl, hbase, _⟩
  · intro k hk; simp [Value.ownBlock] at hk
  · intro k hk; simp [Value.ownBlock] at hk; omega
/-! ### Rows apart -/
def Apart (a b : Value) : Prop := ∀ g, a.ownBlock = some g → b.ownBlock ≠ some g
theorem Apart.symm {a b : Value} (h : Apart a b) : Apart b a := fun g hb ha => h g ha hb
theorem Apart.ne {a b : Value} (h : Apart a b) : a.ownBlock = none ∨ a.ownBlock ≠ b.ownBlock := by
  cases ha : a.ownBlock with
  | none => exact .inl rfl
  | some g => exact .inr fun e => h g ha e.symm
theorem own_lt {w : World} {base : Nat} {e : TypeId} {size : Nat} {v : Value} {n : Nat} {xs : List Value} (h : w.ownsRow base e size v n xs) {g : Nat} (hg : v.ownBlock = some g) : g < w.heap.size := by
  obtain ⟨_, h2⟩ := h
  rcases h2 with ⟨rfl, _⟩ | ⟨b, cap, cur, rfl, hbase, hh, _⟩
  · simp [Value.ownBlock] at hg
  · simp [Value.ownBlock] at hg
    subst hg
    rcases Nat.lt_or_ge b w.heap.size with h1 | h1
    · exact h1
    · rw [Array.getElem?_eq_none h1] at hh; cases hh
/-- One value appended to a row of one's own (whatever it holds); rows apart stay, and stay apart. -/
theorem app_val {P : Program} {w : World} {ops : Array Oper} {rest : List Oper} {o : Oper} {a : Act} {Q : Exit → Act → World → Prop} (hgd : o.guard = none) (s x : Operand) (t : TypeId)
    (ho : o.op = .call { callee := .builtin .append, args := #[s, x], argTypes := #[t, t] })
    (base : Nat) (e : TypeId) (i : TypeInfo) (z : Value) (bytes : Nat) (ht : P.underlying t = some (.slice e)) (hi : P.info? e = some i) (hz : i.zero = some z) (hsize : i.size = 1) (hby : i.bytes = bytes) (hzs : z.cells.size = 1)
    (v : Value) (n : Nat) (xs : List Value) (hs : a.eval s = v) (hown : w.ownsRow base e 1 v n xs)
    (X : Value) (B : Nat) (hx : a.eval x = .slice (some ⟨B, 0, none⟩) 1 1) (hc : ∀ j u, ([X] : List Value)[j]? = some u → w.cell? ((⟨B, 0, none⟩ : Addr).add j) = some u) (hX : X.oneCell' = true) (h63 : n + 1 ≤ maxLen) (hbytes : (n + 1) * bytes ≤ 140737488355328) (hbase : base ≤ w.heap.size)
    (h : ∀ g cap w', w'.ownsRow base e 1 (.slice (some ⟨g, 0, none⟩) (n + 1) cap) (n + 1) (xs ++ [X]) → w.grownBy w' v.ownBlock → (v.ownBlock = some g ∨ g = w.heap.size) → g < w'.heap.size → wpList P ops Q rest (a.put o.dst (.slice (some ⟨g, 0, none⟩) (n + 1) cap)) w') :
    wpList P ops Q (o :: rest) a w :=
  wpList_append_lies w hgd s x t ho base e i z 1 bytes ht hi hz hsize hby hzs (by decide) v n xs hs hown ⟨B, 0, none⟩ 1 1 [X] hx rfl hc (by intro u hu; simp at hu; subst hu; exact hX) (by decide) h63 hbytes hbase w.heap.size rfl h
end Go.Proofs.YtmdkdjgamhaeoaaGreat.Lw
/- Memory that a call turns at named blocks alone: what else was there is as it was. For every stage that has things with memory. -/
namespace Go.Proofs.YtmdkdjgamhaeoaaGreat.Lw
open Go Go.RowKit
set_option linter.unusedVariables false
/-- w' is w, but for the blocks F and new ones. -/
structure Kept (F : Nat → Prop) (w w' : World) : Prop where
  os : w'.os = w.os
  tape : w'.tape = w.tape
  output : w'.output = w.output
  size : w.heap.size ≤ w'.heap.size
  block : ∀ k, k < w.heap.size → ¬ F k → w'.heap[k]? = w.heap[k]?
theorem Kept.refl (F : Nat → Prop) (w : World) : Kept F w w := ⟨rfl, rfl, rfl, Nat.le_refl _, fun _ _ _ => rfl⟩
theorem Kept.of_below {F : Nat → Prop} {w w' : World} (h : Below w.heap.size w w') : Kept F w w' :=
  ⟨h.1, h.2, h.3, h.4, fun k hk _ => h.5 k hk⟩
theorem Kept.mono {F G : Nat → Prop} {w w' : World} (h : Kept F w w') (hf : ∀ k, k < w.heap.size → F k → G k) : Kept G w w' :=
  ⟨h.os, h.tape, h.output, h.size, fun k hk hg => h.block k hk fun hF => hg (hf k hk hF)⟩
theorem Kept.trans {F G : Nat → Prop} {w w1 w2 : World} (h : Kept F w w1) (g : Kept G w1 w2) (hf : ∀ k, k < w.heap.size → G k → F k) : Kept F w w2 :=
  ⟨g.os.trans h.os, g.tape.trans h.tape, g.output.trans h.output, Nat.le_trans h.size g.size,
    fun k hk hF => (g.block k (Nat.lt_of_lt_of_le hk h.size) fun hG => hF (hf k hk hG)).trans (h.block k hk hF)⟩
theorem Kept.then {F : Nat → Prop} {w w1 w2 : World} (h : Kept F w w1) (g : Below w1.heap.size w1 w2) : Kept F w w2 :=
  h.trans (Kept.of_below (F := fun _ => False) g) (fun _ _ h => h.elim)
theorem Kept.below {w w' : World} (h : Kept (fun _ => False) w w') : Below w.heap.size w w' :=
  ⟨h.os, h.tape, h.output, h.size, fun k hk => h.block k hk fun h => h⟩
theorem Kept.alloc {F : Nat → Prop} {w w1 : World} (h : Kept F w w1) (o : Obj) : Kept F w (w1.alloc o) := h.then (Lw.below_alloc (Below.refl _ _) o)
theorem Kept.drew {F : Nat → Prop} {w w1 : World} (h : Kept F w w1) : Kept F w w1.drew := h.then (Below.drew (Below.refl _ _))
theorem Kept.drewN {F : Nat → Prop} {w w1 : World} (h : Kept F w w1) (n : Nat) : Kept F w (w1.drewN n) := h.then (below_drewN (Below.refl _ _) n)
theorem Kept.over {F : Nat → Prop} {w w1 : World} (h : Kept F w w1) (bs : Array Obj) (d : Nat) : Kept F w (grow w1 bs d) := h.then (grow_below _ _ _)
theorem Kept.set {F : Nat → Prop} {w w1 : World} (h : Kept F w w1) {g : Nat} (hg : F g ∨ w.heap.size ≤ g) (i : Nat) (v : Value) : Kept F w (w1.setCell ⟨g, i, none⟩ v) := by
  refine ⟨h.os, h.tape, h.output, by simpa [World.setCell] using h.size, ?_⟩
  intro k hk hF
  rw [← h.block k hk hF]
  simp only [World.setCell, Array.getElem?_modify]
  rw [if_neg]
  rintro rfl
  rcases hg with hg | hg
  · exact hF hg
  · omega
theorem Kept.grown {F : Nat → Prop} {w X w2 : World} {row : Option Nat} (h : Kept F w X) (g : X.grownBy w2 row) (hrow : ∀ q, row = some q → F q ∨ w.heap.size ≤ q) : Kept F w w2 := by
  refine ⟨g.os.trans h.os, g.tape.trans h.tape, g.output.trans h.output, Nat.le_trans h.size g.size, ?_⟩
  intro k hk hF
  refine (g.block k (Nat.lt_of_lt_of_le hk h.size) ?_).trans (h.block k hk hF)
  intro e
  rcases hrow k e.symm with h1 | h1
  · exact hF h1
  · omega
theorem Kept.low {F : Nat → Prop} {B : Nat} {w0 w w' : World} (h : Kept F w w') (hb : Below B w0 w) (hB : B ≤ w.heap.size) (hf : ∀ q, F q → B ≤ q) : Below B w0 w' :=
  ⟨h.os.trans hb.1, h.tape.trans hb.2, h.output.trans hb.3, Nat.le_trans hb.4 h.size, fun k hk => (h.block k (by omega) fun hF => by have := hf k hF; omega).trans (hb.5 k hk)⟩
theorem Kept.heap {F : Nat → Prop} {w w' : World} (h : Kept F w w') {b : Nat} {o : Obj} (hb : w.heap[b]? = some o) (hf : ¬ F b) : w'.heap[b]? = some o := by
  have hlt : b < w.heap.size := by
    rcases Nat.lt_or_ge b w.heap.size with h1 | h1
    · exact h1
    · rw [Array.getElem?_eq_none h1] at hb; cases hb
  rw [h.block b hlt hf, hb]
theorem Kept.cell {F : Nat → Prop} {w w' : World} (h : Kept F w w') {a : Addr} {v : Value} (hc : w.cell? a = some v) (hf : ¬ F a.block) : w'.cell? a = some v := by
  rw [World.cell?_of_block (h.block a.block (cell_lt hc) hf), hc]
theorem Kept.own {F : Nat → Prop} {w w' : World} {base : Nat} {e : TypeId} {size : Nat} {v : Value} {n : Nat} {xs : List Value} (h : Kept F w w') (ho : w.ownsRow base e size v n xs) (hf : ∀ q, v.ownBlock = some q → ¬ F q) : w'.ownsRow base e size v n xs := by
  refine ⟨ho.1, ?_⟩
  rcases ho.2 with h0 | ⟨g, cap, cur, rfl, hb, hg, h1, h2, h3, h4⟩
  · exact .inl h0
  · exact .inr ⟨g, cap, cur, rfl, hb, h.heap hg (hf g rfl), h1, h2, h3, h4⟩
theorem Rd.keep {k : IntKind} {F : Nat → Prop} {w w' : World} {A : Option Addr} {zs : List Int} (h : Rd k w A zs) (g : Kept F w w') (hf : ∀ a, A = some a → ¬ F a.block) : Rd k w' A zs := by
  intro j v hv
  obtain ⟨ad, e, hc⟩ := h j v hv
  refine ⟨ad, e, g.cell hc ?_⟩
  have hbl : (ad.add j).block = ad.block := by unfold Addr.add; split <;> rfl
  rw [hbl]
  exact hf ad e
theorem own_mono {w : World} {base base' : Nat} {e : TypeId} {size : Nat} {v : Value} {n : Nat} {xs : List Value} (h : w.ownsRow base e size v n xs) (hb : base' ≤ base) : w.ownsRow base' e size v n xs := by
  refine ⟨h.1, ?_⟩
  rcases h.2 with h0 | ⟨g, cap, cur, h1, h2, h3⟩
  · exact .inl h0
  · exact .inr ⟨g, cap, cur, h1, Nat.le_trans hb h2, h3⟩
end Go.Proofs.YtmdkdjgamhaeoaaGreat.Lw
/- Things with memory of their own, side by side: what one turns leaves the others. For every stage that has things with memory. -/
namespace Go.Proofs.YtmdkdjgamhaeoaaGreat.Lw
open Go Go.RowKit
set_option linter.unusedVariables false
/-- A thing: what holds of it, its blocks; what else is turned leaves it. -/
structure Thing where
  I : World → Prop
  F : Nat → Prop
  keep : ∀ (w w' : World) (H : Nat → Prop), I w → Kept H w w' → (∀ k, F k → ¬ H k) → I w'
  lt : ∀ w, I w → ∀ k, F k → k < w.heap.size
/-- The things ts, apart, all made behind w0; what was there at w0 is as it was. -/
def Have (w0 w : World) : List Thing → Prop
  | [] => Below w0.heap.size w0 w
  | t :: ts => t.I w ∧ (∀ k, t.F k → w0.heap.size ≤ k) ∧ (∀ u ∈ ts, ∀ k, t.F k → ¬ u.F k) ∧ Have w0 w ts
theorem Have.below {w0 w : World} : ∀ {ts : List Thing}, Have w0 w ts → Below w0.heap.size w0 w
  | [], h => h
  | t :: ts, h => Have.below (ts := ts) h.2.2.2
theorem Have.one {w0 w : World} : ∀ {ts : List Thing}, Have w0 w ts → ∀ t ∈ ts, t.I w ∧ (∀ k, t.F k → w0.heap.size ≤ k)
  | [], h, t, ht => by simp at ht
  | s :: ts, h, t, ht => by
    rcases List.mem_cons.1 ht with rfl | ht
    · exact ⟨h.1, h.2.1⟩
    · exact Have.one (ts := ts) h.2.2.2 t ht
theorem Have.keep {w0 w w' : World} {H : Nat → Prop} (hk : Kept H w w') (hb : Below w0.heap.size w0 w') : ∀ {ts : List Thing}, Have w0 w ts → (∀ t ∈ ts, ∀ k, t.F k → ¬ H k) → Have w0 w' ts
  | [], h, _ => hb
  | t :: ts, h, hf => ⟨t.keep w w' H h.1 hk (hf t (by simp)), h.2.1, h.2.2.1, Have.keep hk hb (ts := ts) h.2.2.2 (fun u hu => hf u (by simp [hu]))⟩
theorem Have.up {w0 w w' : World} {ts : List Thing} (h : Have w0 w ts) (hb : Below w.heap.size w w') : Have w0 w' ts :=
  Have.keep (H := fun _ => False) (Kept.of_below hb) (h.below.trans (hb.mono h.below.size)) h (fun _ _ _ _ => fun h => h)
theorem Have.nil (w : World) : Have w w [] := Below.refl _ _
theorem Have.start {w w' : World} (h : Below w.heap.size w w') : Have w w' [] := h
/-- A new thing. -/
theorem Have.push {w0 w w' : World} {ts : List Thing} (h : Have w0 w ts) (t : Thing) (hb : Below w.heap.size w w') (ht : t.I w') (hn : ∀ k, t.F k → w.heap.size ≤ k) : Have w0 w' (t :: ts) := by
  refine ⟨ht, fun k hk => Nat.le_trans h.below.size (hn k hk), fun u hu k hk hu2 => ?_, h.up hb⟩
  have h1 := u.lt w (h.one u hu).1 k hu2
  have h2 := hn k hk
  omega
theorem Have.below_kept {w0 w w' : World} {ts : List Thing} (h : Have w0 w ts) {t : Thing} (ht : t ∈ ts) (hk : Kept t.F w w') : Below w0.heap.size w0 w' :=
  hk.low h.below h.below.size (fun q hq => (h.one t ht).2 q hq)
/-- The first thing is turned. -/
theorem Have.turn0 {w0 w w' : World} {t : Thing} {ts : List Thing} (h : Have w0 w (t :: ts)) (t' : Thing) (ht : t'.I w') (hk : Kept t.F w w') (hF : ∀ k, t'.F k → t.F k ∨ w.heap.size ≤ k) : Have w0 w' (t' :: ts) := by
  have hb := h.below_kept (t := t) (by simp) hk
  refine ⟨ht, fun k hk' => ?_, fun u hu k hk' hu2 => ?_, Have.keep hk hb h.2.2.2 (fun u hu k h1 h2 => h.2.2.1 u hu k h2 h1)⟩
  · rcases hF k hk' with h1 | h1
    · exact h.2.1 k h1
    · exact Nat.le_trans h.below.size h1
  · rcases hF k hk' with h1 | h1
    · exact h.2.2.1 u hu k h1 hu2
    · have := u.lt w (h.one u (by simp [hu])).1 k hu2
      omega
/-- A thing behind the first is turned. -/
theorem Have.under {w0 w w' : World} {s : Thing} {ts ts' : List Thing} (h : Have w0 w (s :: ts)) (H : Nat → Prop) (hk : Kept H w w') (hs : ∀ k, s.F k → ¬ H k) (h' : Have w0 w' ts') (hF : ∀ u' ∈ ts', ∀ k, u'.F k → (∃ u ∈ ts, u.F k) ∨ w.heap.size ≤ k) : Have w0 w' (s :: ts') := by
  refine ⟨s.keep w w' H h.1 hk hs, h.2.1, fun u' hu k h1 h2 => ?_, h'⟩
  rcases hF u' hu k h2 with ⟨u, hu, h3⟩ | h3
  · exact h.2.2.1 u hu k h1 h3
  · have := s.lt w h.1 k h1
    omega
theorem Have.turn1 {w0 w w' : World} {s t : Thing} {ts : List Thing} (h : Have w0 w (s :: t :: ts)) (t' : Thing) (ht : t'.I w') (hk : Kept t.F w w') (hF : ∀ k, t'.F k → t.F k ∨ w.heap.size ≤ k) : Have w0 w' (s :: t' :: ts) := by
  refine h.under t.F hk (fun k h1 h2 => h.2.2.1 t (by simp) k h1 h2) (Have.turn0 h.2.2.2 t' ht hk hF) ?_
  intro u hu k hk
  rcases List.mem_cons.1 hu with rfl | hu
  · rcases hF k hk with h1 | h1
    · exact .inl ⟨t, by simp, h1⟩
    · exact .inr h1
  · exact .inl ⟨u, by simp [hu], hk⟩
/-- The first thing is left aside. -/
theorem Have.drop {w0 w : World} {t : Thing} {ts : List Thing} (h : Have w0 w (t :: ts)) : Have w0 w ts := h.2.2.2
theorem Have.apart {w0 w : World} {t u : Thing} {ts : List Thing} (h : Have w0 w (t :: ts)) (hu : u ∈ ts) : ∀ k, t.F k → ¬ u.F k := h.2.2.1 u hu
/-- The thing behind the first is left aside. -/
theorem Have.erase1 {w0 w : World} {s t : Thing} {ts : List Thing} (h : Have w0 w (s :: t :: ts)) : Have w0 w (s :: ts) :=
  ⟨h.1, h.2.1, fun u hu => h.2.2.1 u (by simp [hu]), h.2.2.2.2.2.2⟩
/-- Things that a call made behind w are things behind w0, beside those that were there. -/
theorem Have.join {w0 w w' : World} {us : List Thing} (h : Have w0 w us) : ∀ {ts : List Thing}, Have w w' ts → Have w0 w' (ts ++ us)
  | [], g => h.up g
  | t :: ts, g => by
    refine ⟨g.1, fun k hk => Nat.le_trans h.below.size (g.2.1 k hk), fun u hu k hk hu2 => ?_, Have.join h (ts := ts) g.2.2.2⟩
    rcases List.mem_append.1 hu with h1 | h1
    · exact g.2.2.1 u h1 k hk hu2
    · have h2 := u.lt w (h.one u h1).1 k hu2
      have h3 := g.2.1 k hk
      omega
/-- A variable of its own: a block whose cells are known. -/
def boxT (b : Nat) (e : TypeId) (vs : Array Value) : Thing where
  I := fun w => w.heap[b]? = some (.cells vs e (0, 0))
  F := fun k => k = b
  keep := fun w w' H h hk hf => hk.heap h (hf b rfl)
  lt := fun w h k hk => by
    subst hk
    rcases Nat.lt_or_ge k w.heap.size with h1 | h1
    · exact h1
    · rw [Array.getElem?_eq_none h1] at h; cases h
theorem box_cell {w : World} {b : Nat} {e : TypeId} {vs : Array Value} (h : (boxT b e vs).I w) {i : Nat} {v : Value} (hv : vs[i]? = some v) : w.cell? ⟨b, i, none⟩ = some v := by
  have h2 : w.heap[b]? = some (.cells vs e (0, 0)) := h
  simp [World.cell?, h2, hv]
theorem box_lt {w : World} {b : Nat} {e : TypeId} {vs : Array Value} (h : (boxT b e vs).I w) : b < w.heap.size := (boxT b e vs).lt w h b rfl
theorem box_new (w : World) (e : TypeId) (vs : Array Value) : Have w (w.alloc (.cells vs e)) [boxT w.heap.size e vs] :=
  (Have.nil w).push (boxT w.heap.size e vs) (Lw.below_alloc (Below.refl _ _) _) (heap_alloc_new w _) (fun k hk => Nat.le_of_eq hk.symm)
end Go.Proofs.YtmdkdjgamhaeoaaGreat.Lw
/- Things side by side, by their place. For every stage that has things with memory. Printed by wip/gen/things.py. -/
namespace Go.Proofs.YtmdkdjgamhaeoaaGreat.Lw
open Go Go.RowKit
set_option linter.unusedVariables false
theorem Have.turnX {w0 w w' : World} {t : Thing} {ts : List Thing} (t' : Thing) (ht : t'.I w') (hk : Kept t.F w w') (hF : ∀ k, t'.F k → t.F k ∨ w.heap.size ≤ k) : ∀ {fs : List Thing}, Have w0 w (fs ++ t :: ts) → Have w0 w' (fs ++ t' :: ts)
  | [], h => Have.turn0 h t' ht hk hF
  | a :: fs, h => by
    refine Have.under (ts := fs ++ t :: ts) h t.F hk (fun k h1 h2 => h.2.2.1 t (by simp) k h1 h2) (Have.turnX t' ht hk hF (fs := fs) h.2.2.2) ?_
    intro u hu k hk2
    rcases List.mem_append.1 hu with h1 | h1
    · exact .inl ⟨u, by simp [h1], hk2⟩
    · rcases List.mem_cons.1 h1 with rfl | h1
      · rcases hF k hk2 with h3 | h3
        · exact .inl ⟨t, by simp, h3⟩
        · exact .inr h3
      · exact .inl ⟨u, by simp [h1], hk2⟩
theorem Have.dropX {w0 w : World} {t : Thing} {ts : List Thing} : ∀ {fs : List Thing}, Have w0 w (fs ++ t :: ts) → Have w0 w (fs ++ ts)
  | [], h => h.2.2.2
  | a :: fs, h => ⟨h.1, h.2.1, fun u hu => h.2.2.1 u (by rcases List.mem_append.1 hu with h1 | h1 <;> simp [h1]), Have.dropX (fs := fs) h.2.2.2⟩
theorem Have.far {w0 w : World} {ts : List Thing} (h : Have w0 w ts) {t : Thing} (ht : t ∈ ts) : ∀ k, t.F k → w0.heap.size ≤ k := (h.one t ht).2
theorem Have.i0 {w0 w : World} {t0 : Thing} {ts : List Thing} (h : Have w0 w (t0 :: ts)) : t0.I w := (h.one t0 (by simp)).1
theorem Have.f0 {w0 w : World} {t0 : Thing} {ts : List Thing} (h : Have w0 w (t0 :: ts)) : ∀ k, t0.F k → w0.heap.size ≤ k := (h.one t0 (by simp)).2
theorem Have.turn_0 {w0 w w' : World} {t0 : Thing} {ts : List Thing} (h : Have w0 w (t0 :: ts)) (t' : Thing) (ht : t'.I w') (hk : Kept t0.F w w') (hF : ∀ k, t'.F k → t0.F k ∨ w.heap.size ≤ k) : Have w0 w' (t' :: ts) := Have.turnX (fs := []) t' ht hk hF h
theorem Have.drop_0 {w0 w : World} {t0 : Thing} {ts : List Thing} (h : Have w0 w (t0 :: ts)) : Have w0 w (ts) := Have.dropX (fs := []) h
theorem Have.i1 {w0 w : World} {t0 t1 : Thing} {ts : List Thing} (h : Have w0 w (t0 :: t1 :: ts)) : t1.I w := (h.one t1 (by simp)).1
theorem Have.f1 {w0 w : World} {t0 t1 : Thing} {ts : List Thing} (h : Have w0 w (t0 :: t1 :: ts)) : ∀ k, t1.F k → w0.heap.size ≤ k := (h.one t1 (by simp)).2
theorem Have.i2 {w0 w : World} {t0 t1 t2 : Thing} {ts : List Thing} (h : Have w0 w (t0 :: t1 :: t2 :: ts)) : t2.I w := (h.one t2 (by simp)).1
theorem Have.f2 {w0 w : World} {t0 t1 t2 : Thing} {ts : List Thing} (h : Have w0 w (t0 :: t1 :: t2 :: ts)) : ∀ k, t2.F k → w0.heap.size ≤ k := (h.one t2 (by simp)).2
theorem Have.turn_2 {w0 w w' : World} {t0 t1 t2 : Thing} {ts : List Thing} (h : Have w0 w (t0 :: t1 :: t2 :: ts)) (t' : Thing) (ht : t'.I w') (hk : Kept t2.F w w') (hF : ∀ k, t'.F k → t2.F k ∨ w.heap.size ≤ k) : Have w0 w' (t0 :: t1 :: t' :: ts) := Have.turnX (fs := [t0, t1]) t' ht hk hF h
theorem Have.i3 {w0 w : World} {t0 t1 t2 t3 : Thing} {ts : List Thing} (h : Have w0 w (t0 :: t1 :: t2 :: t3 :: ts)) : t3.I w := (h.one t3 (by simp)).1
theorem Have.f3 {w0 w : World} {t0 t1 t2 t3 : Thing} {ts : List Thing} (h : Have w0 w (t0 :: t1 :: t2 :: t3 :: ts)) : ∀ k, t3.F k → w0.heap.size ≤ k := (h.one t3 (by simp)).2
theorem Have.i4 {w0 w : World} {t0 t1 t2 t3 t4 : Thing} {ts : List Thing} (h : Have w0 w (t0 :: t1 :: t2 :: t3 :: t4 :: ts)) : t4.I w := (h.one t4 (by simp)).1
theorem Have.f4 {w0 w : World} {t0 t1 t2 t3 t4 : Thing} {ts : List Thing} (h : Have w0 w (t0 :: t1 :: t2 :: t3 :: t4 :: ts)) : ∀ k, t4.F k → w0.heap.size ≤ k := (h.one t4 (by simp)).2
theorem Have.i5 {w0 w : World} {t0 t1 t2 t3 t4 t5 : Thing} {ts : List Thing} (h : Have w0 w (t0 :: t1 :: t2 :: t3 :: t4 :: t5 :: ts)) : t5.I w := (h.one t5 (by simp)).1
theorem Have.f5 {w0 w : World} {t0 t1 t2 t3 t4 t5 : Thing} {ts : List Thing} (h : Have w0 w (t0 :: t1 :: t2 :: t3 :: t4 :: t5 :: ts)) : ∀ k, t5.F k → w0.heap.size ≤ k := (h.one t5 (by simp)).2
theorem Have.f6 {w0 w : World} {t0 t1 t2 t3 t4 t5 t6 : Thing} {ts : List Thing} (h : Have w0 w (t0 :: t1 :: t2 :: t3 :: t4 :: t5 :: t6 :: ts)) : ∀ k, t6.F k → w0.heap.size ≤ k := (h.one t6 (by simp)).2
theorem Have.f7 {w0 w : World} {t0 t1 t2 t3 t4 t5 t6 t7 : Thing} {ts : List Thing} (h : Have w0 w (t0 :: t1 :: t2 :: t3 :: t4 :: t5 :: t6 :: t7 :: ts)) : ∀ k, t7.F k → w0.heap.size ≤ k := (h.one t7 (by simp)).2
theorem Have.ap02 {w0 w : World} {t0 t1 t2 : Thing} {ts : List Thing} (h : Have w0 w (t0 :: t1 :: t2 :: ts)) : ∀ k, t0.F k → ¬ t2.F k := h.2.2.1 t2 (by simp)
end Go.Proofs.YtmdkdjgamhaeoaaGreat.Lw
/- Signed numbers of sixty-four bits, masked. No stage's own. -/
namespace Go.Proofs.YtmdkdjgamhaeoaaGreat.Lw
open Go Go.RowKit
theorem wrap_bv (x : BitVec 64) : IntKind.i64.wrap (x.toNat : Int) = x.toInt := by
  have h := x.isLt
  rw [IntKind.wrap_i64, BitVec.toInt_eq_toNat_cond]
  split <;> omega
theorem bv_of (a : Int) (h0 : -9223372036854775808 ≤ a) (h1 : a ≤ 9223372036854775807) : (BitVec.ofInt 64 a).toInt = a := by
  rw [BitVec.toInt_ofInt]; simp [Int.bmod]; omega
theorem and_i64 (a b : Int) : bits .and .i64 a b = (BitVec.ofInt 64 a &&& BitVec.ofInt 64 b).toInt := wrap_bv _
theorem and16i (n : Int) : bits .and .i64 n 65535 = n % 65536 := by
  rw [and_i64]
  have h2 : (BitVec.ofInt 64 n &&& BitVec.ofInt 64 65535).toNat = n.toNat % 65536 ∨ True := Or.inr trivial
  have e : (BitVec.ofInt 64 n &&& BitVec.ofInt 64 65535).toNat = (n % 18446744073709551616).toNat % 65536 := by
    rw [BitVec.toNat_and, BitVec.toNat_ofInt, BitVec.toNat_ofInt]
    have h := Nat.and_two_pow_sub_one_eq_mod (n % 18446744073709551616).toNat 16
    have e65 : ((65535 : Int) % ((2 ^ 64 : Nat) : Int)).toNat = 2 ^ 16 - 1 := by decide
    rw [e65, show ((2 ^ 64 : Nat) : Int) = 18446744073709551616 from by decide, h]
  rw [BitVec.toInt_eq_toNat_cond, e]
  split <;> omega
end Go.Proofs.YtmdkdjgamhaeoaaGreat.Lw
/- The plain arithmetic of layer 1 (numbers modulo 2^61 - 1). No dump is imported. -/
namespace Go.Proofs.YtmdkdjgamhaeoaaGreat.Fld
open Go Go.RowKit

def fold (x : Int) : Int := x % 2305843009213693951
def add (a b : Int) : Int := (a + b) % 2305843009213693951
def sub (a b : Int) : Int := (a - b) % 2305843009213693951
def mul (a b : Int) : Int := (a * b) % 2305843009213693951
def pow (a n : Int) : Int := (a ^ n.toNat) % 2305843009213693951
def inv (a : Int) : Int := pow a 2305843009213693949
theorem fold_bd (x : Int) : 0 ≤ fold x ∧ fold x ≤ 2305843009213693950 := by unfold fold; omega
theorem add_bd (x y : Int) : 0 ≤ add x y ∧ add x y ≤ 2305843009213693950 := by unfold add; omega
theorem sub_bd (x y : Int) : 0 ≤ sub x y ∧ sub x y ≤ 2305843009213693950 := by unfold sub; omega
theorem mod_bd (z : Int) : 0 ≤ z % 2305843009213693951 ∧ z % 2305843009213693951 ≤ 2305843009213693950 := by omega
theorem mul_bd (x y : Int) : 0 ≤ mul x y ∧ mul x y ≤ 2305843009213693950 := mod_bd _
theorem ret_int {k : IntKind} {a b : Int} (h : a = b) : Ending.returned (.int k a) = .returned (.int k b) := by rw [h]
theorem ret_two {k l : IntKind} {a b c d : Int} (h : a = b) (g : c = d) : Ending.returned (.tuple #[.int k a, .int l c]) = .returned (.tuple #[.int k b, .int l d]) := by rw [h, g]
theorem and61 (x : Int) (h0 : 0 ≤ x) (h1 : x ≤ 18446744073709551615) : bits .and .u64 x 2305843009213693951 = x % 2305843009213693952 := by
  rw [u64_and x 2305843009213693951 h0 (by omega) (by omega) (by omega)]
  have h := Nat.and_two_pow_sub_one_eq_mod x.toNat 61
  have e : ((2305843009213693951 : Int).toNat) = 2 ^ 61 - 1 := by decide
  rw [e, h]
  have e2 : (2 : Nat) ^ 61 = 2305843009213693952 := by decide
  rw [e2]; omega
theorem and32 (x : Int) (h0 : 0 ≤ x) (h1 : x ≤ 18446744073709551615) : bits .and .u64 x 4294967295 = x % 4294967296 := by
  rw [u64_and x 4294967295 h0 (by omega) (by omega) (by omega)]
  have h := Nat.and_two_pow_sub_one_eq_mod x.toNat 32
  have e : ((4294967295 : Int).toNat) = 2 ^ 32 - 1 := by decide
  rw [e, h]
  have e2 : (2 : Nat) ^ 32 = 4294967296 := by decide
  rw [e2]; omega
/-- The two halves of 'hi<<3 | lo>>61' do not meet. -/
theorem or3 (x y : Int) (h0 : 0 ≤ x) (h1 : x ≤ 2305843009213693951) (g0 : 0 ≤ y) (g1 : y ≤ 7) : bits .or .u64 (x * 8) y = x * 8 + y := by
  rw [u64_or (x * 8) y (by omega) (by omega) (by omega) (by omega)]
  have h := nat_join 3 (x * 8).toNat y.toNat (by simp; omega) (by simp; omega)
  rw [h]; omega

/-- 2^61 counts as 1. -/
theorem fold_parts (x : Int) : fold x = (x / 2305843009213693952 + x % 2305843009213693952) % 2305843009213693951 := by
  unfold fold
  have e : x = (x / 2305843009213693952 + x % 2305843009213693952) + 2305843009213693951 * (x / 2305843009213693952) := by omega
  generalize hs : x / 2305843009213693952 + x % 2305843009213693952 = s at e ⊢
  rw [e, Int.add_mul_emod_self_left]
theorem fold_sum (x : Int) (h0 : 0 ≤ x) (h1 : x ≤ 18446744073709551615) : IntKind.u64.wrap (x / 2305843009213693952 + bits .and .u64 x 2305843009213693951) = x / 2305843009213693952 + x % 2305843009213693952 ∧
    0 ≤ x / 2305843009213693952 + x % 2305843009213693952 ∧ x / 2305843009213693952 + x % 2305843009213693952 ≤ 2305843009213693958 := by
  rw [and61 x h0 h1]
  have hb : x / 2305843009213693952 ≤ 7 := by omega
  have hr : x % 2305843009213693952 ≤ 2305843009213693951 := by omega
  exact ⟨IntWalk.u64_in _ (by omega), by omega, by omega⟩
theorem fold_hi (x : Int) (h0 : 0 ≤ x) (h1 : x ≤ 18446744073709551615) (h : 2305843009213693951 ≤ IntKind.u64.wrap (x / 2305843009213693952 + bits .and .u64 x 2305843009213693951)) :
    IntKind.u64.wrap (IntKind.u64.wrap (x / 2305843009213693952 + bits .and .u64 x 2305843009213693951) - 2305843009213693951) = fold x := by
  obtain ⟨e, b0, b1⟩ := fold_sum x h0 h1
  rw [e] at h ⊢
  rw [fold_parts]
  generalize x / 2305843009213693952 + x % 2305843009213693952 = s at *
  rw [IntWalk.u64_in _ (by omega)]
  omega
theorem fold_lo (x : Int) (h0 : 0 ≤ x) (h1 : x ≤ 18446744073709551615) (h : IntKind.u64.wrap (x / 2305843009213693952 + bits .and .u64 x 2305843009213693951) < 2305843009213693951) :
    IntKind.u64.wrap (x / 2305843009213693952 + bits .and .u64 x 2305843009213693951) = fold x := by
  obtain ⟨e, b0, b1⟩ := fold_sum x h0 h1
  rw [e] at h ⊢
  rw [fold_parts]
  generalize x / 2305843009213693952 + x % 2305843009213693952 = s at *
  omega
theorem fold_of (x : Int) (h0 : 0 ≤ x) (h1 : x ≤ 2305843009213693950) : fold x = x := by unfold fold; omega
theorem add_fold (a b : Int) : fold (fold a + fold b) = add a b := by unfold fold add; omega
theorem mul_fold (a b : Int) : mul (fold a) (fold b) = mul a b := by unfold fold mul; rw [← Int.mul_emod]

/-! ### The product of 128 bits -/
theorem prod_bd (x y : Int) (h0 : 0 ≤ x) (h1 : x ≤ 4294967295) (g0 : 0 ≤ y) (g1 : y ≤ 4294967295) : 0 ≤ x * y ∧ x * y ≤ 18446744065119617025 := by
  refine ⟨Int.mul_nonneg h0 g0, ?_⟩
  have := Int.mul_le_mul h1 g1 g0 (by omega : (0 : Int) ≤ 4294967295)
  omega
theorem prod_parts (a b : Int) : a * b = (a / 4294967296 * (b / 4294967296)) * 18446744073709551616 + (a / 4294967296 * (b % 4294967296) + a % 4294967296 * (b / 4294967296)) * 4294967296 + a % 4294967296 * (b % 4294967296) := by
  have ea : a = a / 4294967296 * 4294967296 + a % 4294967296 := by omega
  have eb : b = b / 4294967296 * 4294967296 + b % 4294967296 := by omega
  generalize a / 4294967296 = A at *
  generalize a % 4294967296 = u at *
  generalize b / 4294967296 = B at *
  generalize b % 4294967296 = v at *
  subst ea eb
  simp only [Int.add_mul, Int.mul_add]
  have e1 : A * 4294967296 * (B * 4294967296) = A * B * 18446744073709551616 := by
    rw [Int.mul_assoc, Int.mul_left_comm 4294967296 B, ← Int.mul_assoc]; rfl
  have e2 : A * 4294967296 * v = A * v * 4294967296 := by rw [Int.mul_assoc, Int.mul_comm 4294967296 v, Int.mul_assoc]
  have e3 : u * (B * 4294967296) = u * B * 4294967296 := by rw [Int.mul_assoc]
  omega
theorem mul64_hi (a b : Int) (h0 : 0 ≤ a) (h1 : a ≤ 18446744073709551615) (g0 : 0 ≤ b) (g1 : b ≤ 18446744073709551615) :
    IntKind.u64.wrap (IntKind.u64.wrap (IntKind.u64.wrap (a / 4294967296 * (b / 4294967296)) + IntKind.u64.wrap (IntKind.u64.wrap (a / 4294967296 * bits .and .u64 b 4294967295) + IntKind.u64.wrap (bits .and .u64 a 4294967295 * bits .and .u64 b 4294967295) / 4294967296) / 4294967296)
      + IntKind.u64.wrap (bits .and .u64 (IntKind.u64.wrap (IntKind.u64.wrap (a / 4294967296 * bits .and .u64 b 4294967295) + IntKind.u64.wrap (bits .and .u64 a 4294967295 * bits .and .u64 b 4294967295) / 4294967296)) 4294967295 + IntKind.u64.wrap (bits .and .u64 a 4294967295 * (b / 4294967296))) / 4294967296)
    = a * b / 18446744073709551616 := by
  rw [and32 a h0 h1, and32 b g0 g1, prod_parts a b]
  have A0 : 0 ≤ a / 4294967296 ∧ a / 4294967296 ≤ 4294967295 := by omega
  have B0 : 0 ≤ b / 4294967296 ∧ b / 4294967296 ≤ 4294967295 := by omega
  have u0 : 0 ≤ a % 4294967296 ∧ a % 4294967296 ≤ 4294967295 := by omega
  have v0 : 0 ≤ b % 4294967296 ∧ b % 4294967296 ≤ 4294967295 := by omega
  have p11 := prod_bd _ _ A0.1 A0.2 B0.1 B0.2
  have p10 := prod_bd _ _ A0.1 A0.2 v0.1 v0.2
  have p01 := prod_bd _ _ u0.1 u0.2 B0.1 B0.2
  have p00 := prod_bd _ _ u0.1 u0.2 v0.1 v0.2
  generalize a / 4294967296 * (b / 4294967296) = x11 at *
  generalize a / 4294967296 * (b % 4294967296) = x10 at *
  generalize a % 4294967296 * (b / 4294967296) = x01 at *
  generalize a % 4294967296 * (b % 4294967296) = x00 at *
  rw [IntWalk.u64_in x00 (by omega), IntWalk.u64_in x10 (by omega), IntWalk.u64_in x01 (by omega), IntWalk.u64_in x11 (by omega)]
  rw [IntWalk.u64_in (x10 + x00 / 4294967296) (by omega)]
  rw [and32 (x10 + x00 / 4294967296) (by omega) (by omega)]
  rw [IntWalk.u64_in ((x10 + x00 / 4294967296) % 4294967296 + x01) (by omega)]
  rw [IntWalk.u64_in (x11 + (x10 + x00 / 4294967296) / 4294967296) (by omega)]
  rw [IntWalk.u64_in _ (by omega)]
  omega
theorem mul64_lo (a b : Int) : IntKind.u64.wrap (a * b) = a * b % 18446744073709551616 := by rw [IntKind.wrap_u64]

/-- What Mul makes of the 128 bits. -/
theorem mul_bits (a b : Int) (h0 : 0 ≤ a) (h1 : a ≤ 2305843009213693950) (g0 : 0 ≤ b) (g1 : b ≤ 2305843009213693950) :
    fold (IntKind.u64.wrap (bits .or .u64 (IntKind.u64.wrap (a * b / 18446744073709551616 * 8)) (a * b % 18446744073709551616 / 2305843009213693952) + bits .and .u64 (a * b % 18446744073709551616) 2305843009213693951)) = mul a b := by
  have t0 : 0 ≤ a * b := Int.mul_nonneg h0 g0
  have t1 : a * b ≤ 2305843009213693950 * 2305843009213693950 := Int.mul_le_mul h1 g1 g0 (by omega)
  unfold mul
  generalize a * b = t at *
  have q0 : 0 ≤ t / 18446744073709551616 ∧ t / 18446744073709551616 ≤ 288230376151711743 := by omega
  rw [IntWalk.u64_in (t / 18446744073709551616 * 8) (by omega), or3 _ _ (by omega) (by omega) (by omega) (by omega), and61 _ (by omega) (by omega)]
  have e1 : t / 18446744073709551616 * 8 + t % 18446744073709551616 / 2305843009213693952 = t / 2305843009213693952 := by omega
  have e2 : t % 18446744073709551616 % 2305843009213693952 = t % 2305843009213693952 := by omega
  rw [e1, e2, IntWalk.u64_in _ (by omega)]
  show _ = fold t
  rw [fold_parts t]; unfold fold; rfl
theorem mul_bits_bd (a b : Int) (h0 : 0 ≤ a) (h1 : a ≤ 2305843009213693950) (g0 : 0 ≤ b) (g1 : b ≤ 2305843009213693950) :
    0 ≤ a * b / 18446744073709551616 ∧ a * b / 18446744073709551616 ≤ 18446744073709551615 ∧ 0 ≤ a * b % 18446744073709551616 ∧ a * b % 18446744073709551616 ≤ 18446744073709551615 := by
  have t0 : 0 ≤ a * b := Int.mul_nonneg h0 g0
  have t1 : a * b ≤ 2305843009213693950 * 2305843009213693950 := Int.mul_le_mul h1 g1 g0 (by omega)
  generalize a * b = t at *
  omega
theorem u64_bd (x : Int) : 0 ≤ IntKind.u64.wrap x ∧ IntKind.u64.wrap x ≤ 18446744073709551615 := by rw [IntKind.wrap_u64]; omega

/-! ### Powers -/
theorem pow_mod (x : Int) (k : Nat) : (x % 2305843009213693951) ^ k % 2305843009213693951 = x ^ k % 2305843009213693951 := by
  induction k with
  | zero => simp
  | succ k ih => rw [Int.pow_succ, Int.pow_succ, Int.mul_emod, ih, ← Int.mul_emod, Int.mul_emod, Int.emod_emod_of_dvd _ (Int.dvd_refl _), ← Int.mul_emod]
/-- What a loop over powers keeps: u times s to the power of m. -/
def pw (u s m : Int) : Int := (u * s ^ m.toNat) % 2305843009213693951
/-! ### The document's own answers: products by doubling -/
def mr (o x y : Int) : Int := (o + x * y) % 2305843009213693951
/-! ### Powers, from the highest bit down -/
theorem mod_mul (x a : Int) : x % 2305843009213693951 * a % 2305843009213693951 = x * a % 2305843009213693951 := by rw [Int.mul_emod, Int.emod_emod_of_dvd _ (Int.dvd_refl _), ← Int.mul_emod]
theorem mul_mod (x a : Int) : a * (x % 2305843009213693951) % 2305843009213693951 = a * x % 2305843009213693951 := by rw [Int.mul_comm, mod_mul, Int.mul_comm]
theorem half (n : Int) (j : Nat) : n / 2 ^ (j + 1) = n / 2 ^ j / 2 := by
  rw [Int.pow_succ, Int.ediv_ediv_of_nonneg (by have := Int.pow_pos (n := (2 : Int)) (m := j) (by omega); omega)]
end Go.Proofs.YtmdkdjgamhaeoaaGreat.Fld
/- What follows, section of layer 1: a number other than 0 to the power of P-1 is 1. By a number (37) whose powers meet all others. No dump is imported. -/
namespace Go.Proofs.YtmdkdjgamhaeoaaGreat.Fld

/-! ### Who never meets a place twice meets all -/
theorem pigeon : ∀ (n : Nat) (f : Nat → Nat), (∀ i, i < n → f i < n) → (∀ i j, i < n → j < n → f i = f j → i = j) → ∀ y, y < n → ∃ i, i < n ∧ f i = y := by
  intro n
  induction n with
  | zero => intro f _ _ y hy; omega
  | succ n ih =>
    intro f hb hi y hy
    have hgb : ∀ i, i < n → (fun i => if f i = n then f n else f i) i < n := by
      intro i h
      show (if f i = n then f n else f i) < n
      split
      · rename_i e
        have h1 := hb n (by omega)
        have : f n ≠ n := by intro e2; have := hi i n (by omega) (by omega) (by omega); omega
        omega
      · have := hb i (by omega); omega
    have hgi : ∀ i j, i < n → j < n → (fun i => if f i = n then f n else f i) i = (fun i => if f i = n then f n else f i) j → i = j := by
      intro i j h1 h2
      show (if f i = n then f n else f i) = (if f j = n then f n else f j) → i = j
      split
      · rename_i e1
        split
        · rename_i e2; intro _; exact hi i j (by omega) (by omega) (by omega)
        · intro e; have := hi n j (by omega) (by omega) e; omega
      · split
        · intro e; have := hi i n (by omega) (by omega) e; omega
        · intro e; exact hi i j (by omega) (by omega) e
    have IH := ih _ hgb hgi
    by_cases h1 : y = f n
    · exact ⟨n, by omega, h1.symm⟩
    · by_cases h2 : y = n
      · have h3 := hb n (by omega)
        obtain ⟨i, hi1, hi2⟩ := IH (f n) (by omega)
        have hi2 : (if f i = n then f n else f i) = f n := hi2
        split at hi2
        · rename_i e; exact ⟨i, by omega, by omega⟩
        · have := hi i n (by omega) (by omega) hi2; omega
      · obtain ⟨i, hi1, hi2⟩ := IH y (by omega)
        have hi2 : (if f i = n then f n else f i) = y := hi2
        split at hi2
        · omega
        · exact ⟨i, by omega, hi2⟩

/-! ### Powers, reckoned by the kernel -/
def pm : Nat → Nat → Nat → Nat → Nat
  | 0, u, _, _ => u
  | f + 1, u, s, e => pm f (if e % 2 = 1 then u * s % 2305843009213693951 else u) (s * s % 2305843009213693951) (e / 2)
theorem pm_is : ∀ (f u s e : Nat), e < 2 ^ f → u < 2305843009213693951 → pm f u s e = u * s ^ e % 2305843009213693951 := by
  intro f
  induction f with
  | zero => intro u s e he hu; have : e = 0 := by omega
            subst this; unfold pm; rw [Nat.pow_zero, Nat.mul_one, Nat.mod_eq_of_lt hu]
  | succ f ih =>
    intro u s e he hu
    unfold pm
    have he2 : e / 2 < 2 ^ f := by rw [Nat.pow_succ] at he; omega
    rw [ih _ _ _ he2 (by split; exact Nat.mod_lt _ (by omega); exact hu)]
    have e1 : (s * s % 2305843009213693951) ^ (e / 2) % 2305843009213693951 = s ^ (2 * (e / 2)) % 2305843009213693951 := by
      rw [← Nat.pow_mod, Nat.pow_mul, show s ^ 2 = s * s from by rw [Nat.pow_succ, Nat.pow_one]]
    split
    · rename_i ho
      rw [Nat.mul_mod, e1, Nat.mod_mod, ← Nat.mul_mod, Nat.mul_assoc]
      congr 2
      rw [Nat.mul_comm, ← Nat.pow_succ]; congr 1; omega
    · rename_i ho
      rw [Nat.mul_mod, e1, ← Nat.mul_mod]
      congr 3; omega
theorem pow_is (e : Nat) (h : e < 2 ^ 61) : 37 ^ e % 2305843009213693951 = pm 61 1 37 e := by rw [pm_is 61 1 37 e h (by omega), Nat.one_mul]

/-- P - 1, behind a name (as an exponent a numeral of that size must not be reckoned). -/
def nn : Nat := 2305843009213693950
theorem nn_is : nn = 2305843009213693950 := rfl
theorem g_all : 37 ^ nn % 2305843009213693951 = 1 := by
  rw [pow_is _ (by decide)]; decide +kernel

/-! ### 37 to less than that is not 1 -/
def qs : List Nat := [2, 3, 5, 7, 11, 13, 31, 41, 61, 151, 331, 1321]
theorem qs_not : ∀ q, q ∈ qs → pm 61 1 37 (2305843009213693950 / q) ≠ 1 := by decide +kernel
theorem qs_dvd : ∀ q, q ∈ qs → q ∣ 2305843009213693950 ∧ 2 ≤ q := by decide +kernel
theorem qs_prime : ∀ q, q ∈ qs → ∀ x, x < 1322 → x ∣ q → x = 1 ∨ x = q := by decide +kernel
theorem qs_lt : ∀ q, q ∈ qs → q < 1322 := by decide +kernel
theorem qs_cop (m : Nat) (h : ∀ q, q ∈ qs → ¬ q ∣ m) (q : Nat) (hq : q ∈ qs) : Nat.Coprime m q := by
  have h1 : Nat.gcd m q ∣ q := Nat.gcd_dvd_right m q
  have h2 := Nat.le_of_dvd (by have := (qs_dvd q hq).2; omega) h1
  have h3 := qs_lt q hq
  rcases qs_prime q hq _ (by omega) h1 with e | e
  · exact e
  · exact absurd (e ▸ Nat.gcd_dvd_left m q) (h q hq)
theorem n_is : 2305843009213693950 = 2 * (3 * (3 * (5 * (5 * (7 * (11 * (13 * (31 * (41 * (61 * (151 * (331 * 1321)))))))))))) := by decide +kernel
theorem some_q (m : Nat) (hm : 1 < m) (hd : m ∣ 2305843009213693950) : ∃ q, q ∈ qs ∧ q ∣ m := by
  apply Classical.byContradiction
  intro hn
  have hn' : ∀ q, q ∈ qs → ¬ q ∣ m := fun q hq hd => hn ⟨q, hq, hd⟩
  have C := qs_cop m hn'
  have hc : Nat.Coprime m 2305843009213693950 := by
    rw [n_is]
    repeat (first | exact C _ (by decide) | refine Nat.Coprime.mul_right (C _ (by decide)) ?_)
  have : m = 1 := by
    have h1 := Nat.gcd_eq_left hd
    have h2 : Nat.gcd m 2305843009213693950 = 1 := hc
    omega
  omega

theorem pow_one_mul (d k : Nat) (h : 37 ^ d % 2305843009213693951 = 1) : 37 ^ (d * k) % 2305843009213693951 = 1 := by
  rw [Nat.pow_mul, Nat.pow_mod, h, Nat.one_pow]
theorem pow_shift (d r : Nat) (h : 37 ^ d % 2305843009213693951 = 1) : 37 ^ (d + r) % 2305843009213693951 = 37 ^ r % 2305843009213693951 := by
  rw [Nat.pow_add, Nat.mul_mod, h, Nat.one_mul, Nat.mod_mod]

theorem g_order : ∀ d, 0 < d → d < 2305843009213693950 → 37 ^ d % 2305843009213693951 ≠ 1 := by
  intro d
  induction d using Nat.strongRecOn with
  | _ d ih =>
    intro h0 h1 he
    have hn := nn_is
    have hr : nn % d = 0 := by
      apply Classical.byContradiction
      intro hr
      have hlt := Nat.mod_lt nn h0
      refine ih (nn % d) hlt (by omega) (by omega) ?_
      have e := Nat.div_add_mod nn d
      have h2 := pow_shift (d * (nn / d)) (nn % d) (pow_one_mul d _ he)
      rw [e] at h2
      rw [← h2]; exact g_all
    obtain ⟨m, hm⟩ := Nat.dvd_of_mod_eq_zero hr
    have hm1 : 1 < m := by
      rcases m with _ | _ | m
      · omega
      · omega
      · omega
    obtain ⟨q, hq, k, hk⟩ := some_q m hm1 ⟨d, by rw [← hn, Nat.mul_comm]; exact hm⟩
    have hq2 := (qs_dvd q hq).2
    have e : 2305843009213693950 / q = d * k := by
      rw [← hn, hm, hk, Nat.mul_left_comm, Nat.mul_div_cancel_left _ (by omega)]
    have h3 := pow_one_mul d k he
    rw [← e, pow_is _ (Nat.lt_of_le_of_lt (Nat.div_le_self _ _) (by decide))] at h3
    exact qs_not q hq h3

theorem g_ne (i : Nat) (hi : i ≤ 2305843009213693950) : 37 ^ i % 2305843009213693951 ≠ 0 := by
  intro h
  have hn := nn_is
  have e : nn = i + (nn - i) := by omega
  have h2 := g_all
  rw [e, Nat.pow_add, Nat.mul_mod, h, Nat.zero_mul] at h2
  exact absurd h2 (by decide)
theorem g_inj (i j : Nat) (hij : i < j) (hj : j < 2305843009213693950) : 37 ^ i % 2305843009213693951 ≠ 37 ^ j % 2305843009213693951 := by
  intro h
  refine g_order (j - i) (by omega) (by omega) ?_
  have hn := nn_is
  have e1 : i + (nn - i) = nn := by omega
  have e2 : j + (nn - i) = nn + (j - i) := by omega
  have h1 : 37 ^ (i + (nn - i)) % 2305843009213693951 = 37 ^ (j + (nn - i)) % 2305843009213693951 := by
    rw [Nat.pow_add, Nat.mul_mod, h, ← Nat.mul_mod, ← Nat.pow_add]
  rw [e1, e2, g_all, pow_shift _ _ g_all] at h1
  exact h1.symm
theorem g_meets (b : Nat) (h0 : 0 < b) (h1 : b < 2305843009213693951) : ∃ k, 37 ^ k % 2305843009213693951 = b := by
  have hb : ∀ i, i < 2305843009213693950 → 37 ^ i % 2305843009213693951 - 1 < 2305843009213693950 := by
    intro i hi
    have := Nat.mod_lt (37 ^ i) (by decide : 2305843009213693951 > 0)
    omega
  have hi : ∀ i j, i < 2305843009213693950 → j < 2305843009213693950 → 37 ^ i % 2305843009213693951 - 1 = 37 ^ j % 2305843009213693951 - 1 → i = j := by
    intro i j h2 h3 he
    have n1 := g_ne i (by omega)
    have n2 := g_ne j (by omega)
    have he' : 37 ^ i % 2305843009213693951 = 37 ^ j % 2305843009213693951 := by omega
    rcases Nat.lt_trichotomy i j with h | h | h
    · exact absurd he' (g_inj i j h h3)
    · exact h
    · exact absurd he'.symm (g_inj j i h h2)
  obtain ⟨k, hk, he⟩ := pigeon 2305843009213693950 (fun i => 37 ^ i % 2305843009213693951 - 1) hb hi (b - 1) (by omega)
  have n1 := g_ne k (by omega)
  have he : 37 ^ k % 2305843009213693951 - 1 = b - 1 := he
  exact ⟨k, by omega⟩
theorem fermat_nat (b : Nat) (h : b % 2305843009213693951 ≠ 0) : b ^ nn % 2305843009213693951 = 1 := by
  obtain ⟨k, hk⟩ := g_meets (b % 2305843009213693951) (by omega) (Nat.mod_lt _ (by decide))
  rw [Nat.pow_mod, ← hk, ← Nat.pow_mod, ← Nat.pow_mul, Nat.mul_comm, Nat.pow_mul, Nat.pow_mod, g_all, Nat.one_pow]

end Go.Proofs.YtmdkdjgamhaeoaaGreat.Fld
/- The walk of Fold. -/
namespace Go.Proofs.YtmdkdjgamhaeoaaGreat.Fld
open Go.RowKit

theorem fold_any (x : Int) (w : World) (h0 : 0 ≤ x) (h1 : x ≤ 18446744073709551615) :
    Calls Tryz.prog 164 #[.int .u64 x] w fun e w' => e = .returned (.int .u64 (fold x)) ∧ w = w' := by
  go_enter Tryz.func164, Tryz.ntmps164
  go_wp2
  · go_ret
    exact ⟨ret_int (fold_hi x h0 h1 (by assumption)), rfl⟩
  · go_ret
    exact ⟨ret_int (fold_lo x h0 h1 (by assumption)), rfl⟩

end Go.Proofs.YtmdkdjgamhaeoaaGreat.Fld
/- What makes 1 of a number: by powers, and by Euclid's steps. No dump is imported. -/
namespace Go.Proofs.YtmdkdjgamhaeoaaGreat.Fld

theorem fermat (a : Int) (h : fold a ≠ 0) : pow a 2305843009213693950 = 1 := by
  have hf := fold_bd a
  have e := fermat_nat (fold a).toNat (by rw [Nat.mod_eq_of_lt (by omega)]; omega)
  have e2 : (((fold a).toNat : Int) ^ nn) % 2305843009213693951 = 1 := by
    have := congrArg (fun k : Nat => (k : Int)) e
    simpa using this
  rw [Int.toNat_of_nonneg hf.1] at e2
  unfold fold at e2
  rw [pow_mod] at e2
  unfold pow
  exact e2
theorem inv_is (a : Int) (h : fold a ≠ 0) : mul a (inv a) = 1 := by
  have e := fermat a h
  unfold inv mul pow at *
  rw [mul_mod]
  rw [show (2305843009213693950 : Int).toNat = (2305843009213693949 : Int).toNat + 1 from rfl, Int.pow_succ, Int.mul_comm] at e
  exact e
/-! ### Euclid's steps -/
/-- Who divides both divides P and a. -/
def Both (a r0 r1 : Int) : Prop := ∀ d : Int, d ∣ r0 → d ∣ r1 → d ∣ 2305843009213693951 ∧ d ∣ a
/-- r is s times a, but for times P. -/
def Is (a r s : Int) : Prop := (s * a) % 2305843009213693951 = r % 2305843009213693951
end Go.Proofs.YtmdkdjgamhaeoaaGreat.Fld
/- Sums and products modulo P may be put together in any order; what was done is undone. -/
namespace Go.Proofs.YtmdkdjgamhaeoaaGreat.Fld
open Go.RowKit

/-! ### What follows: the ring -/
theorem mul_add (a b c : Int) : mul a (add b c) = add (mul a b) (mul a c) := by
  unfold mul add; rw [mul_mod, Int.mul_add, Int.add_emod]
theorem add_assoc (a b c : Int) : add a (add b c) = add (add a b) c := by unfold add; omega
theorem mul_assoc (a b c : Int) : mul a (mul b c) = mul (mul a b) c := by
  unfold mul; rw [mul_mod, mod_mul, Int.mul_assoc]
theorem add_comm (a b : Int) : add a b = add b a := by unfold add; rw [Int.add_comm]
theorem mul_comm (a b : Int) : mul a b = mul b a := by unfold mul; rw [Int.mul_comm]
theorem mul_one (a : Int) : mul a 1 = fold a := by unfold mul fold; rw [Int.mul_one]
/-! ### What was done is undone -/
theorem sub_zero (a b : Int) (h : fold b = 0) : sub a b = fold a := by unfold sub fold at *; omega
theorem mul_zero (a b : Int) (h : fold b = 0) : mul a b = 0 := by
  unfold fold at h; unfold mul; rw [Int.mul_emod, h, Int.mul_zero]; rfl
theorem mul_back (a b : Int) (h : fold b ≠ 0) : mul (mul a b) (inv b) = fold a := by rw [← mul_assoc, inv_is b h, mul_one]
/-! ### It hangs on what is left alone -/
/-! ### Exponents -/
theorem pow_add (a m n : Int) (hm : 0 ≤ m) (hn : 0 ≤ n) : pow a (m + n) = mul (pow a m) (pow a n) := by
  unfold pow mul
  rw [Int.toNat_add hm hn, Int.pow_add, Int.mul_emod]
theorem pow_mul (a m n : Int) (hm : 0 ≤ m) (hn : 0 ≤ n) : pow a (m * n) = pow (pow a m) n := by
  unfold pow
  rw [pow_mod, Int.toNat_mul hm hn, Int.pow_mul]
theorem pow_one (a : Int) : pow a 1 = fold a := by
  unfold pow fold
  rw [show (1 : Int).toNat = 0 + 1 from rfl, Int.pow_succ, Int.pow_zero, Int.one_mul]
end Go.Proofs.YtmdkdjgamhaeoaaGreat.Fld
/- The walks of Add, Sub, Mul. -/
namespace Go.Proofs.YtmdkdjgamhaeoaaGreat.Fld
open Go.RowKit

theorem add_any (a b : Int) (w : World) (h0 : 0 ≤ a) (h1 : a ≤ 18446744073709551615) (g0 : 0 ≤ b) (g1 : b ≤ 18446744073709551615) :
    Calls Tryz.prog 171 #[.int .u64 a, .int .u64 b] w fun e w' => e = .returned (.int .u64 (add a b)) ∧ w = w' := by
  have fa := fold_bd a
  have fb := fold_bd b
  go_enter Tryz.func171, Tryz.ntmps171
  go_wp2_with (go_at_call 164; refine (fold_any _ _ (by omega) (by omega)).mono ?_; rintro e w' ⟨rfl, rfl⟩)
  go_ret
  exact ⟨ret_int (add_fold a b), rfl⟩

theorem mul64_any (a b : Int) (w : World) (h0 : 0 ≤ a) (h1 : a ≤ 18446744073709551615) (g0 : 0 ≤ b) (g1 : b ≤ 18446744073709551615) :
    Calls Tryz.prog 176 #[.int .u64 a, .int .u64 b] w fun e w' => e = .returned (.tuple #[.int .u64 (a * b / 18446744073709551616), .int .u64 (a * b % 18446744073709551616)]) ∧ w = w' := by
  go_enter Tryz.func176, Tryz.ntmps176
  go_wp2
  go_ret2
  exact ⟨ret_two (mul64_hi a b h0 h1 g0 g1) (mul64_lo a b), rfl⟩

theorem mul_any (a b : Int) (w : World) (h0 : 0 ≤ a) (h1 : a ≤ 18446744073709551615) (g0 : 0 ≤ b) (g1 : b ≤ 18446744073709551615) :
    Calls Tryz.prog 172 #[.int .u64 a, .int .u64 b] w fun e w' => e = .returned (.int .u64 (mul a b)) ∧ w = w' := by
  have fa := fold_bd a
  have fb := fold_bd b
  have e := mul_fold a b
  have e2 := mul_bits (fold a) (fold b) fa.1 fa.2 fb.1 fb.2
  have H : Hid (fold (IntKind.u64.wrap (bits .or .u64 (IntKind.u64.wrap (fold a * fold b / 18446744073709551616 * 8)) (fold a * fold b % 18446744073709551616 / 2305843009213693952) + bits .and .u64 (fold a * fold b % 18446744073709551616) 2305843009213693951)) = mul a b) := Lib.hid (e2.trans e)
  have fd := mul_bits_bd (fold a) (fold b) fa.1 fa.2 fb.1 fb.2
  clear e e2
  go_enter Tryz.func172, Tryz.ntmps172
  go_wp2_with (first
    | (go_at_call 164; (first | refine (fold_any _ _ (by omega) (by omega)).mono ?_ | refine (fold_any _ _ (u64_bd _).1 (u64_bd _).2).mono ?_); rintro e w' ⟨rfl, rfl⟩)
    | (go_at_call 176; refine (mul64_any _ _ _ (by omega) (by omega) (by omega) (by omega)).mono ?_; rintro e w' ⟨rfl, rfl⟩))
  go_ret
  exact ⟨ret_int H.out, rfl⟩
end Go.Proofs.YtmdkdjgamhaeoaaGreat.Fld
/- The walk of Pow and Inv. -/
namespace Go.Proofs.YtmdkdjgamhaeoaaGreat.Fld
open Go.RowKit

end Go.Proofs.YtmdkdjgamhaeoaaGreat.Fld
/- The walks of the document's own answers for layer 1. -/
namespace Go.Proofs.YtmdkdjgamhaeoaaGreat.Fld
open Go.RowKit

end Go.Proofs.YtmdkdjgamhaeoaaGreat.Fld
/- The walk of the document's own answer for Inv: Euclid's steps. -/
namespace Go.Proofs.YtmdkdjgamhaeoaaGreat.Fld
open Go.RowKit

end Go.Proofs.YtmdkdjgamhaeoaaGreat.Fld
/- Numbers put in order: the k-th of them, by how many are less. No dump is imported. -/
namespace Go.Proofs.YtmdkdjgamhaeoaaGreat.Ord
set_option linter.unusedVariables false
def less (l : List Int) (x : Int) : Nat := l.countP (fun y => decide (y < x))
def upto (l : List Int) (x : Int) : Nat := l.countP (fun y => decide (y ≤ x))
def Ranks (l : List Int) (k : Nat) (x : Int) : Prop := x ∈ l ∧ less l x ≤ k ∧ k < upto l x
/-- Where x is put among the first j of out. -/
def posN (out : List Int) (x : Int) : Nat → Nat
  | 0 => 0
  | j + 1 => if x < out[j]?.getD 0 then posN out x j else j + 1
def put (out : List Int) (x : Int) : List Int := out.take (posN out x out.length) ++ x :: out.drop (posN out x out.length)
def srt (l : List Int) : List Int := l.foldl put []
def kth (l : List Int) (k : Nat) : Int := (srt l)[k]?.getD 0
theorem posN_le (out : List Int) (x : Int) : ∀ j, posN out x j ≤ j
  | 0 => Nat.le_refl _
  | j + 1 => by
    unfold posN
    split
    · exact Nat.le_succ_of_le (posN_le out x j)
    · exact Nat.le_refl _
theorem posN_hi (out : List Int) (x : Int) : ∀ j i, posN out x j ≤ i → i < j → x < out[i]?.getD 0
  | 0, i, _, h => absurd h (Nat.not_lt_zero _)
  | j + 1, i, h1, h2 => by
    unfold posN at h1
    split at h1
    · rename_i hx
      rcases Nat.lt_or_ge i j with h3 | h3
      · exact posN_hi out x j i h1 h3
      · have : i = j := by omega
        subst this
        exact hx
    · omega
theorem posN_lo (out : List Int) (x : Int) : ∀ j, 0 < posN out x j → out[posN out x j - 1]?.getD 0 ≤ x
  | 0, h => absurd h (Nat.lt_irrefl _)
  | j + 1, h => by
    unfold posN at h ⊢
    split
    · rename_i hx
      rw [if_pos hx] at h
      exact posN_lo out x j h
    · rename_i hx
      simp
      omega
theorem put_perm (out : List Int) (x : Int) : (put out x).Perm (x :: out) := by
  unfold put
  refine List.perm_middle.trans ?_
  rw [List.take_append_drop]
theorem sorted_get {s : List Int} (h : s.Pairwise (· ≤ ·)) {i j : Nat} (hij : i ≤ j) (hj : j < s.length) : s[i]?.getD 0 ≤ s[j]?.getD 0 := by
  rcases Nat.lt_or_ge i j with h1 | h1
  · rw [List.getElem?_eq_getElem hj, List.getElem?_eq_getElem (by omega)]
    exact List.pairwise_iff_getElem.1 h i j (by omega) hj h1
  · have : i = j := by omega
    subst this
    exact Int.le_refl _
theorem mem_take_get {s : List Int} {k : Nat} {a : Int} (h : a ∈ s.take k) : ∃ i, i < k ∧ i < s.length ∧ s[i]?.getD 0 = a := by
  obtain ⟨i, hi, e⟩ := List.mem_iff_getElem.1 h
  simp at hi
  refine ⟨i, by omega, by omega, ?_⟩
  rw [List.getElem?_eq_getElem (by omega)]
  simpa using e
theorem mem_drop_get {s : List Int} {k : Nat} {a : Int} (h : a ∈ s.drop k) : ∃ i, k ≤ i ∧ i < s.length ∧ s[i]?.getD 0 = a := by
  obtain ⟨i, hi, e⟩ := List.mem_iff_getElem.1 h
  simp at hi
  refine ⟨k + i, by omega, by omega, ?_⟩
  rw [List.getElem?_eq_getElem (by omega)]
  simpa using e
theorem put_sorted (out : List Int) (x : Int) (h : out.Pairwise (· ≤ ·)) : (put out x).Pairwise (· ≤ ·) := by
  have hle := posN_le out x out.length
  have ha : ∀ a ∈ out.take (posN out x out.length), a ≤ x := by
    intro a hm
    obtain ⟨i, h1, h2, rfl⟩ := mem_take_get hm
    have h3 := posN_lo out x out.length (by omega)
    have h4 := sorted_get h (i := i) (j := posN out x out.length - 1) (by omega) (by omega)
    omega
  have hb : ∀ b ∈ out.drop (posN out x out.length), x ≤ b := by
    intro b hm
    obtain ⟨i, h1, h2, rfl⟩ := mem_drop_get hm
    have := posN_hi out x out.length i h1 h2
    omega
  have hp := h
  rw [← List.take_append_drop (posN out x out.length) out] at hp
  obtain ⟨p1, p2, p3⟩ := List.pairwise_append.1 hp
  unfold put
  refine List.pairwise_append.2 ⟨p1, List.pairwise_cons.2 ⟨hb, p2⟩, ?_⟩
  intro a hm b hn
  rcases List.mem_cons.1 hn with rfl | hn
  · exact ha a hm
  · exact p3 a hm b hn
theorem foldl_put_perm : ∀ (l acc : List Int), (l.foldl put acc).Perm (acc ++ l)
  | [], acc => by simp
  | x :: l, acc => by
    rw [List.foldl_cons]
    refine (foldl_put_perm l (put acc x)).trans ?_
    refine ((put_perm acc x).append_right l).trans ?_
    exact List.perm_middle.symm
theorem foldl_put_sorted : ∀ (l acc : List Int), acc.Pairwise (· ≤ ·) → (l.foldl put acc).Pairwise (· ≤ ·)
  | [], acc, h => h
  | x :: l, acc, h => foldl_put_sorted l _ (put_sorted acc x h)
theorem srt_perm (l : List Int) : (srt l).Perm l := by simpa [srt] using foldl_put_perm l []
theorem srt_sorted (l : List Int) : (srt l).Pairwise (· ≤ ·) := foldl_put_sorted l [] List.Pairwise.nil
theorem srt_len (l : List Int) : (srt l).length = l.length := (srt_perm l).length_eq
theorem upto_le (l : List Int) (x : Int) : upto l x ≤ l.length := List.countP_le_length
theorem ranks_one {l : List Int} {k : Nat} {x y : Int} (h : Ranks l k x) (g : Ranks l k y) : x = y := by
  have key : ∀ {x y : Int}, Ranks l k x → Ranks l k y → ¬ x < y := by
    intro x y h g hlt
    have e : upto l x ≤ less l y := List.countP_mono_left (fun z _ hz => by simp at hz ⊢; omega)
    have := h.2.2
    have := g.2.1
    omega
  have h1 := key h g
  have h2 := key g h
  omega
theorem ranks_perm {l m : List Int} (hp : l.Perm m) {k : Nat} {x : Int} (h : Ranks l k x) : Ranks m k x := by
  refine ⟨hp.mem_iff.1 h.1, ?_, ?_⟩
  · have := h.2.1
    unfold less at this ⊢
    rwa [← hp.countP_eq]
  · have := h.2.2
    unfold upto at this ⊢
    rwa [← hp.countP_eq]
theorem ranks_sorted {s : List Int} (h : s.Pairwise (· ≤ ·)) {k : Nat} (hk : k < s.length) : Ranks s k (s[k]?.getD 0) := by
  refine ⟨?_, ?_, ?_⟩
  · rw [List.getElem?_eq_getElem hk]
    exact List.getElem_mem hk
  · have e : less s (s[k]?.getD 0) = less (s.take k) (s[k]?.getD 0) + less (s.drop k) (s[k]?.getD 0) := by
      unfold less
      rw [← List.countP_append, List.take_append_drop]
    have z : less (s.drop k) (s[k]?.getD 0) = 0 := by
      unfold less
      rw [List.countP_eq_zero]
      intro a ha
      obtain ⟨i, h1, h2, rfl⟩ := mem_drop_get ha
      have := sorted_get h h1 h2
      simp
      omega
    have b : less (s.take k) (s[k]?.getD 0) ≤ (s.take k).length := List.countP_le_length
    rw [List.length_take] at b
    omega
  · have e : upto s (s[k]?.getD 0) = upto (s.take (k + 1)) (s[k]?.getD 0) + upto (s.drop (k + 1)) (s[k]?.getD 0) := by
      unfold upto
      rw [← List.countP_append, List.take_append_drop]
    have z : upto (s.take (k + 1)) (s[k]?.getD 0) = (s.take (k + 1)).length := by
      unfold upto
      rw [List.countP_eq_length]
      intro a ha
      obtain ⟨i, h1, h2, rfl⟩ := mem_take_get ha
      have := sorted_get h (i := i) (j := k) (by omega) hk
      simp
      omega
    rw [List.length_take] at z
    omega
theorem ranks_kth (l : List Int) (k : Nat) (hk : k < l.length) : Ranks l k (kth l k) :=
  ranks_perm (srt_perm l) (ranks_sorted (srt_sorted l) (by rw [srt_len]; exact hk))
theorem kth_eq {l : List Int} {k : Nat} {x : Int} (h : Ranks l k x) : x = kth l k :=
  ranks_one h (ranks_kth l k (Nat.lt_of_lt_of_le h.2.2 (upto_le l x)))
theorem kth_perm {l m : List Int} (hp : l.Perm m) (k : Nat) : kth l k = kth m k := by
  rcases Nat.lt_or_ge k l.length with h | h
  · exact kth_eq (ranks_perm hp (ranks_kth l k h))
  · unfold kth
    rw [List.getElem?_eq_none (by rw [srt_len]; exact h), List.getElem?_eq_none (by rw [srt_len, ← hp.length_eq]; exact h)]
theorem kth_mem (l : List Int) (k : Nat) (hk : k < l.length) : kth l k ∈ l := (ranks_kth l k hk).1
/-! ### What the laws say -/
def near (l : List Int) (lo hi : Int) : Nat := l.countP (fun y => decide (lo ≤ y ∧ y ≤ hi))
theorem least_eq (l : List Int) (x : Int) (h1 : x ∈ l) (h2 : ∀ y ∈ l, x ≤ y) : x = kth l 0 := by
  refine kth_eq ⟨h1, ?_, ?_⟩
  · have e : less l x = 0 := by
      unfold less
      rw [List.countP_eq_zero]
      intro a ha
      have := h2 a ha
      simp
      omega
    omega
  · unfold upto
    exact List.countP_pos_iff.2 ⟨x, h1, by simp⟩
/-- What is told of the place k (0 where there is no such place), and whether there is one. -/
def kv (l : List Int) (k : Int) : Int := if 0 ≤ k ∧ k < l.length then kth l k.toNat else 0
def kb (l : List Int) (k : Int) : Bool := decide (0 ≤ k ∧ k < l.length)
theorem kv_yes {l : List Int} {k : Int} (h : 0 ≤ k) (g : k < l.length) : kv l k = kth l k.toNat ∧ kb l k = true :=
  ⟨if_pos ⟨h, g⟩, decide_eq_true ⟨h, g⟩⟩
theorem kv_no {l : List Int} {k : Int} (h : k < 0 ∨ l.length ≤ k) : kv l k = 0 ∧ kb l k = false :=
  ⟨if_neg (by omega), decide_eq_false (by omega)⟩
theorem kv_in (l : List Int) (k : Int) (lo hi : Int) (h0 : lo ≤ 0) (h1 : 0 ≤ hi) (h : ∀ v ∈ l, lo ≤ v ∧ v ≤ hi) : lo ≤ kv l k ∧ kv l k ≤ hi := by
  unfold kv
  split
  · exact h _ (kth_mem l _ (by omega))
  · exact ⟨h0, h1⟩
/-! ### Numbers moved, and turned round -/
theorem take_next (l : List Int) (k : Nat) (v : Int) (h : l[k]? = some v) : l.take (k + 1) = l.take k ++ [v] := by
  obtain ⟨hk, e⟩ := List.getElem?_eq_some_iff.1 h
  rw [List.take_succ_eq_append_getElem hk, e]
/-! ### What the loops of the laws count -/
def same (l : List Int) (x : Int) : Nat := l.countP (fun y => y == x)
/-- The number ahead of place k (that of place 0 ahead of place 0). -/
def prev (l : List Int) (k : Nat) : Int := if k = 0 then kv l 0 else kv l ((k : Int) - 1)
end Go.Proofs.YtmdkdjgamhaeoaaGreat.Ord
