/- Texts that statements lean on, put together: Law, Grow, Row, Kept, Thing, Things, Bits, FldMath, FldFermat, FldFold, FldMore, FldAlg, FldOne, OrdMath, OrdMid, OrdOne. -/
import Derived.Test.YtkflggojiiebeaaGreatRows
import Derived.DataShut
import Derived.Lib.SmallJoins
import Derived.Handy
import Derived.WalkSmall
import Derived.WalkSpells
import Derived.Laws.AppendOwnNone
import Derived.Deep.AppendLies
import Derived.Lib.Hide
import Derived.Deep.LoopGhost
import Derived.Deep.RegionHeld3
import Derived.BigQuiet
import Derived.Laws.Cover3
namespace Go.Proofs.YtkflggojiiebeaaGreat.Con
end Go.Proofs.YtkflggojiiebeaaGreat.Con
namespace Go.Proofs.YtkflggojiiebeaaGreat.Exa
end Go.Proofs.YtkflggojiiebeaaGreat.Exa
namespace Go.Proofs.YtkflggojiiebeaaGreat.Fld
end Go.Proofs.YtkflggojiiebeaaGreat.Fld
namespace Go.Proofs.YtkflggojiiebeaaGreat.Grd
end Go.Proofs.YtkflggojiiebeaaGreat.Grd
namespace Go.Proofs.YtkflggojiiebeaaGreat.Hsh
end Go.Proofs.YtkflggojiiebeaaGreat.Hsh
namespace Go.Proofs.YtkflggojiiebeaaGreat.Hvy
end Go.Proofs.YtkflggojiiebeaaGreat.Hvy
namespace Go.Proofs.YtkflggojiiebeaaGreat.Inn
end Go.Proofs.YtkflggojiiebeaaGreat.Inn
namespace Go.Proofs.YtkflggojiiebeaaGreat.Lev
end Go.Proofs.YtkflggojiiebeaaGreat.Lev
namespace Go.Proofs.YtkflggojiiebeaaGreat.Lin
end Go.Proofs.YtkflggojiiebeaaGreat.Lin
namespace Go.Proofs.YtkflggojiiebeaaGreat.Lw
end Go.Proofs.YtkflggojiiebeaaGreat.Lw
namespace Go.Proofs.YtkflggojiiebeaaGreat.Ord
end Go.Proofs.YtkflggojiiebeaaGreat.Ord
namespace Go.Proofs.YtkflggojiiebeaaGreat.Pcs
end Go.Proofs.YtkflggojiiebeaaGreat.Pcs
namespace Go.Proofs.YtkflggojiiebeaaGreat.Qnt
end Go.Proofs.YtkflggojiiebeaaGreat.Qnt
namespace Go.Proofs.YtkflggojiiebeaaGreat.Sed
end Go.Proofs.YtkflggojiiebeaaGreat.Sed
namespace Go.Proofs.YtkflggojiiebeaaGreat.Shp
end Go.Proofs.YtkflggojiiebeaaGreat.Shp
namespace Go.Proofs.YtkflggojiiebeaaGreat.Sk
end Go.Proofs.YtkflggojiiebeaaGreat.Sk
namespace Go.Proofs.YtkflggojiiebeaaGreat.Slc
end Go.Proofs.YtkflggojiiebeaaGreat.Slc
namespace Go.Proofs.YtkflggojiiebeaaGreat.Smr
end Go.Proofs.YtkflggojiiebeaaGreat.Smr
namespace Go.Proofs.YtkflggojiiebeaaGreat.Spn
end Go.Proofs.YtkflggojiiebeaaGreat.Spn
namespace Go.Proofs.YtkflggojiiebeaaGreat.Stk
end Go.Proofs.YtkflggojiiebeaaGreat.Stk
namespace Go.Proofs.YtkflggojiiebeaaGreat.Wid
end Go.Proofs.YtkflggojiiebeaaGreat.Wid
namespace Go.Proofs.YtkflggojiiebeaaGreat.Lw
open Go Go.RowKit Go.ChangeShapes Go.WideShapes Go.ChangeAt
set_option linter.unusedVariables false
variable {H : Type} {enc : TypeId × Value → H}

theorem trodAll_stays {P : Program} {W W' : World} (hl : laidOutB P = true) (hb : Below W.heap.size W W') : ∀ (ts : List TypeId) (vs : List Value) (ds : List (DataW H)) (ps : List MemPlace),
    ts.all (fun t => P.readableRec t && decide (t < P.types.size)) = true → DataW.TrodAll enc P W 0 (fun _ => true) true ts vs ds ps → (∀ x ∈ ps, x.block < W.heap.size) →
    DataW.TrodAll enc P W' 0 (fun b => decide (b < W.heap.size)) true ts vs ds ps
  | [], vs, ds, ps, _, h, _ => by
    obtain ⟨rfl, rfl, rfl⟩ := trodAll_nil h
    exact trodAll_mk0
  | t :: ts, vs, ds, ps, hr, h, hlt => by
    obtain ⟨v, vs', d, ds', p, q, rfl, rfl, rfl, h0, h1⟩ := trodAll_cons h
    simp only [List.all_cons, Bool.and_eq_true, decide_eq_true_eq] at hr
    exact trodAll_cons_mk (Below.trod hl hr.1.1 hr.1.2 h0 hb (fun x hx => hlt x (List.mem_append.2 (Or.inl hx))))
      (trodAll_stays hl hb ts vs' ds' q hr.2 h1 (fun x hx => hlt x (List.mem_append.2 (Or.inr hx))))

theorem trodAll_len {P : Program} {W : World} {b : Nat} {sp : Nat → Bool} {hd : Bool} : ∀ (ts : List TypeId) (vs : List Value) (ds : List (DataW H)) (ps : List MemPlace), DataW.TrodAll enc P W b sp hd ts vs ds ps → ds.length = ts.length
  | [], vs, ds, ps, h => by
    obtain ⟨rfl, rfl, rfl⟩ := trodAll_nil h
    rfl
  | t :: ts, vs, ds, ps, h => by
    obtain ⟨v, vs', d, ds', p, q, rfl, rfl, rfl, h0, h1⟩ := trodAll_cons h
    rw [List.length_cons, List.length_cons, trodAll_len ts vs' ds' q h1]

theorem lifted {C : Checked} {f : FuncId} {fn : Func} {s : ChangeSpec} {conds : List PathCond} {B : TypeId} (own : ownKnob C.prog.godebug = none) (os : Os) (started : os.Started)
    (hnin : C.prog.inits.idxOf? f = none) (hf : C.prog.funcs[f]? = some fn)
    (wit : ∃ (w : World) (tape : _) (i : Input), w.os = os ∧ World.Shaped C.prog (w.forCall tape i) ∧ i.vars = [] ∧ Input.okWide C.prog (w.forCall tape i) Reach.any w.heap.size f i ∧
      ChangeSpec.pre6 enc C.prog fn s conds false (w.forCall tape i).memory i.args ∧ ({} : Assume).holds C.prog (lone (Frame.enter C.prog f i.args CallKind.normal) [] (w.forCall tape i)))
    (hvars : s.vars = []) (hB : C.prog.underlying B = some .bool) (hres : fn.resultTypes = #[B]) (hlaid : laidOutB C.prog = true)
    (hro : fn.params.toList.all (fun t => C.prog.readableRec t && decide (t < C.prog.types.size)) = true)
    (hspec : ∀ ds : List (DataW H), ds.length = fn.params.toList.length → s.fn H ds = { results := [.lit (.bool true)], args := ds })
    (walk : ∀ (W : World) (base : Nat) (args : Array Value) (ds : List (DataW H)) (p : List MemPlace), (∀ (j : Nat) t v, fn.params[j]? = some t → args[j]? = some v → Value.okWide C.prog W .any base t v) →
      DataW.TrodAll enc C.prog W 0 (fun _ => true) true fn.params.toList args.toList ds p → Calls C.prog f args W fun e W' => e = .returned (.bool true) ∧ Below W.heap.size W W') :
    ReturnsInHanded {} C os f .any (s.pre6 enc C.prog fn conds false) (s.post enc C.prog fn false true false false) := by
  refine returnsInHanded_of_change (C := C) own started hnin hf wit ?_
  intro W base args ds gs before hval hW hcnd _
  have hW' := hW
  obtain ⟨p, q, hA, hV, rfl, hfz, hnd⟩ := hW
  rw [hvars] at hV
  obtain ⟨rfl, rfl⟩ := trodVars_none hV
  have hlt : ∀ x ∈ p, x.block < W.heap.size := fun x hx => by simpa using hW'.lt x (by simpa using hx)
  have hsp := hspec ds (trodAll_len _ _ _ _ hA)
  refine (walk W base args ds p hval hA).mono fun e W' ⟨he, hb⟩ => ?_
  subst he
  refine ⟨_, rfl, ds, [], p ++ [], [], p, [], hW', ?_, ?_, ?_, hb.frame _, fun h => by cases h⟩
  · rw [List.append_nil, hsp, hres]
    exact trodAll_cons_mk (shut_bool hB true) trodAll_mk0
  · rw [List.append_nil, hsp]
    exact trodAll_stays hlaid hb _ _ _ _ hro hA hlt
  · rw [List.append_nil, hsp, hvars]
    rfl
theorem wf_u64 {x : Int} (h : (Lit.int .u64 x).wf = true) : 0 ≤ x ∧ x ≤ 18446744073709551615 := by
  have := (Lit.wf_int_iff .u64 x).1 h
  simpa [IntKind.min, IntKind.max, IntKind.bits, IntKind.signed] using this
theorem wf_i64 {x : Int} (h : (Lit.int .i64 x).wf = true) : -9223372036854775808 ≤ x ∧ x ≤ 9223372036854775807 := by
  have := (Lit.wf_int_iff .i64 x).1 h
  simpa [IntKind.min, IntKind.max, IntKind.bits, IntKind.signed] using this
theorem wf_u32 {x : Int} (h : (Lit.int .u32 x).wf = true) : 0 ≤ x ∧ x ≤ 4294967295 := by
  have := (Lit.wf_int_iff .u32 x).1 h
  simpa [IntKind.min, IntKind.max, IntKind.bits, IntKind.signed] using this
theorem wf_i32 {x : Int} (h : (Lit.int .i32 x).wf = true) : -2147483648 ≤ x ∧ x ≤ 2147483647 := by
  have := (Lit.wf_int_iff .i32 x).1 h
  simpa [IntKind.min, IntKind.max, IntKind.bits, IntKind.signed] using this
theorem wf_u8 {x : Int} (h : (Lit.int .u8 x).wf = true) : 0 ≤ x ∧ x ≤ 255 := by
  have := (Lit.wf_int_iff .u8 x).1 h
  simpa [IntKind.min, IntKind.max, IntKind.bits, IntKind.signed] using this
end Go.Proofs.YtkflggojiiebeaaGreat.Lw

namespace Go.Proofs.YtkflggojiiebeaaGreat.Lw
open Go Go.RowKit
def grow (w : World) (bs : Array Obj) (d : Nat) : World := { w with heap := w.heap ++ bs, drawn := d }
theorem below_grow {w w' : World} (h : Below w.heap.size w w') : ∃ (bs : Array Obj) (d : Nat), w' = grow w bs d := by
  obtain ⟨heap, tape, drawn, os, output⟩ := w
  obtain ⟨heap', tape', drawn', os', output'⟩ := w'
  obtain ⟨h1, h2, h3, h4, h5⟩ := h
  simp only at h1 h2 h3 h4 h5
  subst h1 h2 h3
  refine ⟨heap'.extract heap.size heap'.size, drawn', ?_⟩
  simp only [grow, World.mk.injEq, and_true]
  apply Array.ext_getElem?
  intro i
  rw [Array.getElem?_append]
  split
  · rename_i hi; exact h5 i hi
  · rename_i hi
    rw [Array.getElem?_extract]
    split
    · congr 1; omega
    · rw [Array.getElem?_eq_none (by omega)]
theorem grow_below (w : World) (bs : Array Obj) (d : Nat) : Below w.heap.size w (grow w bs d) :=
  ⟨rfl, rfl, rfl, by simp [grow], fun k hk => by simp only [grow]; rw [Array.getElem?_append, if_pos hk]⟩
theorem below_over {w0 w : World} (h : Below w0.heap.size w0 w) (bs : Array Obj) (d : Nat) : Below w0.heap.size w0 (grow w bs d) :=
  h.trans ((grow_below w bs d).mono h.size)
@[simp, go_sem] theorem size_grow (w : World) (bs : Array Obj) (d : Nat) : (grow w bs d).heap.size = w.heap.size + bs.size := by simp [grow]
@[go_sem] theorem cell_grow (w : World) (bs : Array Obj) (d n i : Nat) (h : n < w.heap.size) : (grow w bs d).cell? ⟨n, i, none⟩ = w.cell? ⟨n, i, none⟩ := (grow_below w bs d).cell (p := ⟨n, i, none⟩) h
@[go_sem] theorem frozen_grow (w : World) (bs : Array Obj) (d n i : Nat) (h : n < w.heap.size) : (grow w bs d).frozen? ⟨n, i, none⟩ = w.frozen? ⟨n, i, none⟩ := (grow_below w bs d).frozen (p := ⟨n, i, none⟩) h
@[go_sem] theorem setCell_grow (w : World) (bs : Array Obj) (d n i : Nat) (v : Value) (h : n < w.heap.size) : (grow w bs d).setCell ⟨n, i, none⟩ v = grow (w.setCell ⟨n, i, none⟩ v) bs d := by
  simp only [grow, World.setCell, World.mk.injEq, and_true]
  apply Array.ext_getElem?
  intro j
  simp only [Array.getElem?_modify, Array.getElem?_append, Array.size_modify]
  by_cases hn : n = j
  · subst hn; simp only [if_pos h, if_true]
  · simp only [if_neg hn]
@[go_sem] theorem drew_grow (w : World) (bs : Array Obj) (d : Nat) : (grow w bs d).drew = grow w bs (d + 1) := rfl
@[go_sem] theorem drewN_grow (w : World) (bs : Array Obj) (d n : Nat) : (grow w bs d).drewN n = grow w bs (d + n) := rfl
@[go_sem] theorem grow_drew (w : World) (bs : Array Obj) (d : Nat) : grow w.drew bs d = grow w bs d := rfl
@[go_sem] theorem grow_drewN (w : World) (bs : Array Obj) (d n : Nat) : grow (w.drewN n) bs d = grow w bs d := rfl
@[go_sem] theorem grow_grow (w : World) (bs cs : Array Obj) (d e : Nat) : grow (grow w bs d) cs e = grow w (bs ++ cs) e := by simp [grow, Array.append_assoc]
@[go_sem] theorem alloc_drewN (w : World) (n : Nat) (o : Obj) : (w.drewN n).alloc o = (w.alloc o).drewN n := rfl
@[go_sem] theorem setCell_drewN (w : World) (n : Nat) (a : Addr) (v : Value) : (w.drewN n).setCell a v = (w.setCell a v).drewN n := rfl
@[simp, go_sem] theorem lt_1 (x z0 : Nat) : x < x + 1 + z0 := by omega
@[simp, go_sem] theorem ne_1 (x z0 : Nat) : (x = x + 1 + z0) = False := by simp; omega
@[simp, go_sem] theorem en_1 (x z0 : Nat) : (x + 1 + z0 = x) = False := by simp; omega
@[simp, go_sem] theorem lt_2 (x z0 z1 : Nat) : x < x + 1 + z0 + z1 := by omega
@[simp, go_sem] theorem ne_2 (x z0 z1 : Nat) : (x = x + 1 + z0 + z1) = False := by simp; omega
@[simp, go_sem] theorem en_2 (x z0 z1 : Nat) : (x + 1 + z0 + z1 = x) = False := by simp; omega
@[simp, go_sem] theorem lt_3 (x z0 z1 z2 : Nat) : x < x + 1 + z0 + z1 + z2 := by omega
@[simp, go_sem] theorem ne_3 (x z0 z1 z2 : Nat) : (x = x + 1 + z0 + z1 + z2) = False := by simp; omega
@[simp, go_sem] theorem en_3 (x z0 z1 z2 : Nat) : (x + 1 + z0 + z1 + z2 = x) = False := by simp; omega
@[simp, go_sem] theorem lt_4 (x z0 z1 z2 z3 : Nat) : x < x + 1 + z0 + z1 + z2 + z3 := by omega
@[simp, go_sem] theorem ne_4 (x z0 z1 z2 z3 : Nat) : (x = x + 1 + z0 + z1 + z2 + z3) = False := by simp; omega
@[simp, go_sem] theorem en_4 (x z0 z1 z2 z3 : Nat) : (x + 1 + z0 + z1 + z2 + z3 = x) = False := by simp; omega
@[simp, go_sem] theorem lt_5 (x z0 z1 z2 z3 z4 : Nat) : x < x + 1 + z0 + z1 + z2 + z3 + z4 := by omega
@[simp, go_sem] theorem ne_5 (x z0 z1 z2 z3 z4 : Nat) : (x = x + 1 + z0 + z1 + z2 + z3 + z4) = False := by simp; omega
@[simp, go_sem] theorem en_5 (x z0 z1 z2 z3 z4 : Nat) : (x + 1 + z0 + z1 + z2 + z3 + z4 = x) = False := by simp; omega
@[simp, go_sem] theorem lt_6 (x z0 z1 z2 z3 z4 z5 : Nat) : x < x + 1 + z0 + z1 + z2 + z3 + z4 + z5 := by omega
@[simp, go_sem] theorem ne_6 (x z0 z1 z2 z3 z4 z5 : Nat) : (x = x + 1 + z0 + z1 + z2 + z3 + z4 + z5) = False := by simp; omega
@[simp, go_sem] theorem en_6 (x z0 z1 z2 z3 z4 z5 : Nat) : (x + 1 + z0 + z1 + z2 + z3 + z4 + z5 = x) = False := by simp; omega
@[simp, go_sem] theorem lt_7 (x z0 z1 z2 z3 z4 z5 z6 : Nat) : x < x + 1 + z0 + z1 + z2 + z3 + z4 + z5 + z6 := by omega
@[simp, go_sem] theorem ne_7 (x z0 z1 z2 z3 z4 z5 z6 : Nat) : (x = x + 1 + z0 + z1 + z2 + z3 + z4 + z5 + z6) = False := by simp; omega
@[simp, go_sem] theorem en_7 (x z0 z1 z2 z3 z4 z5 z6 : Nat) : (x + 1 + z0 + z1 + z2 + z3 + z4 + z5 + z6 = x) = False := by simp; omega
@[simp, go_sem] theorem lt_8 (x z0 z1 z2 z3 z4 z5 z6 z7 : Nat) : x < x + 1 + z0 + z1 + z2 + z3 + z4 + z5 + z6 + z7 := by omega
@[simp, go_sem] theorem ne_8 (x z0 z1 z2 z3 z4 z5 z6 z7 : Nat) : (x = x + 1 + z0 + z1 + z2 + z3 + z4 + z5 + z6 + z7) = False := by simp; omega
@[simp, go_sem] theorem en_8 (x z0 z1 z2 z3 z4 z5 z6 z7 : Nat) : (x + 1 + z0 + z1 + z2 + z3 + z4 + z5 + z6 + z7 = x) = False := by simp; omega
@[simp, go_sem] theorem lt_9 (x z0 z1 z2 z3 z4 z5 z6 z7 z8 : Nat) : x < x + 1 + z0 + z1 + z2 + z3 + z4 + z5 + z6 + z7 + z8 := by omega
@[simp, go_sem] theorem ne_9 (x z0 z1 z2 z3 z4 z5 z6 z7 z8 : Nat) : (x = x + 1 + z0 + z1 + z2 + z3 + z4 + z5 + z6 + z7 + z8) = False := by simp; omega
@[simp, go_sem] theorem en_9 (x z0 z1 z2 z3 z4 z5 z6 z7 z8 : Nat) : (x + 1 + z0 + z1 + z2 + z3 + z4 + z5 + z6 + z7 + z8 = x) = False := by simp; omega
@[simp, go_sem] theorem lt_10 (x z0 z1 z2 z3 z4 z5 z6 z7 z8 z9 : Nat) : x < x + 1 + z0 + z1 + z2 + z3 + z4 + z5 + z6 + z7 + z8 + z9 := by omega
@[simp, go_sem] theorem ne_10 (x z0 z1 z2 z3 z4 z5 z6 z7 z8 z9 : Nat) : (x = x + 1 + z0 + z1 + z2 + z3 + z4 + z5 + z6 + z7 + z8 + z9) = False := by simp; omega
@[simp, go_sem] theorem en_10 (x z0 z1 z2 z3 z4 z5 z6 z7 z8 z9 : Nat) : (x + 1 + z0 + z1 + z2 + z3 + z4 + z5 + z6 + z7 + z8 + z9 = x) = False := by simp; omega
@[simp, go_sem] theorem lt_11 (x z0 z1 z2 z3 z4 z5 z6 z7 z8 z9 z10 : Nat) : x < x + 1 + z0 + z1 + z2 + z3 + z4 + z5 + z6 + z7 + z8 + z9 + z10 := by omega
@[simp, go_sem] theorem ne_11 (x z0 z1 z2 z3 z4 z5 z6 z7 z8 z9 z10 : Nat) : (x = x + 1 + z0 + z1 + z2 + z3 + z4 + z5 + z6 + z7 + z8 + z9 + z10) = False := by simp; omega
@[simp, go_sem] theorem en_11 (x z0 z1 z2 z3 z4 z5 z6 z7 z8 z9 z10 : Nat) : (x + 1 + z0 + z1 + z2 + z3 + z4 + z5 + z6 + z7 + z8 + z9 + z10 = x) = False := by simp; omega
@[simp, go_sem] theorem lt_12 (x z0 z1 z2 z3 z4 z5 z6 z7 z8 z9 z10 z11 : Nat) : x < x + 1 + z0 + z1 + z2 + z3 + z4 + z5 + z6 + z7 + z8 + z9 + z10 + z11 := by omega
@[simp, go_sem] theorem ne_12 (x z0 z1 z2 z3 z4 z5 z6 z7 z8 z9 z10 z11 : Nat) : (x = x + 1 + z0 + z1 + z2 + z3 + z4 + z5 + z6 + z7 + z8 + z9 + z10 + z11) = False := by simp; omega
@[simp, go_sem] theorem en_12 (x z0 z1 z2 z3 z4 z5 z6 z7 z8 z9 z10 z11 : Nat) : (x + 1 + z0 + z1 + z2 + z3 + z4 + z5 + z6 + z7 + z8 + z9 + z10 + z11 = x) = False := by simp; omega
@[simp, go_sem] theorem lt_13 (x z0 z1 z2 z3 z4 z5 z6 z7 z8 z9 z10 z11 z12 : Nat) : x < x + 1 + z0 + z1 + z2 + z3 + z4 + z5 + z6 + z7 + z8 + z9 + z10 + z11 + z12 := by omega
@[simp, go_sem] theorem ne_13 (x z0 z1 z2 z3 z4 z5 z6 z7 z8 z9 z10 z11 z12 : Nat) : (x = x + 1 + z0 + z1 + z2 + z3 + z4 + z5 + z6 + z7 + z8 + z9 + z10 + z11 + z12) = False := by simp; omega
@[simp, go_sem] theorem en_13 (x z0 z1 z2 z3 z4 z5 z6 z7 z8 z9 z10 z11 z12 : Nat) : (x + 1 + z0 + z1 + z2 + z3 + z4 + z5 + z6 + z7 + z8 + z9 + z10 + z11 + z12 = x) = False := by simp; omega
/-- The end of a walk: what was there is as it was. -/
theorem below_alloc {w w' : World} (h : Below w.heap.size w w') (o : Obj) : Below w.heap.size w (w'.alloc o) := h.alloc h.size o
end Go.Proofs.YtkflggojiiebeaaGreat.Lw

namespace Go.Proofs.YtkflggojiiebeaaGreat.Lw
open Go Go.RowKit
set_option linter.unusedVariables false
/-- The numbers zs lie behind the address A. -/
def Rd (k : IntKind) (w : World) (A : Option Addr) (zs : List Int) : Prop := ∀ j v, zs[j]? = some v → ∃ ad, A = some ad ∧ w.cell? (ad.add j) = some (.int k v)
theorem cell_lt {w : World} {a : Addr} {v : Value} (h : w.cell? a = some v) : a.block < w.heap.size := by
  rcases Nat.lt_or_ge a.block w.heap.size with h1 | h1
  · exact h1
  · have : w.heap[a.block]? = none := by simp [h1]
    simp [World.cell?, this] at h
theorem cell_up {w w1 : World} {a : Addr} {v : Value} (h : w.cell? a = some v) (hb : Below w.heap.size w w1) : w1.cell? a = some v := by
  rw [hb.cell (cell_lt h)]; exact h
theorem Rd.up {k : IntKind} {w w1 : World} {A : Option Addr} {zs : List Int} (h : Rd k w A zs) (hb : Below w.heap.size w w1) : Rd k w1 A zs := by
  intro j v hv
  obtain ⟨ad, e, hc⟩ := h j v hv
  exact ⟨ad, e, cell_up hc hb⟩
theorem Rd.at {k : IntKind} {w : World} {ad : Addr} {zs : List Int} (h : Rd k w (some ad) zs) {j : Nat} {v : Int} (hv : zs[j]? = some v) : w.cell? (ad.add j) = some (.int k v) := by
  obtain ⟨ad2, e, hc⟩ := h j v hv
  injection e with e
  subst e
  exact hc
theorem Rd.some_of {k : IntKind} {w : World} {A : Option Addr} {zs : List Int} (h : Rd k w A zs) (hl : 0 < zs.length) : ∃ ad, A = some ad := by
  obtain ⟨ad, e, _⟩ := h 0 zs[0] (List.getElem?_eq_getElem hl)
  exact ⟨ad, e⟩
theorem rd_nil (k : IntKind) (w : World) (A : Option Addr) : Rd k w A [] := fun j v h => by simp at h
theorem add_add' (a : Addr) (i j : Nat) : (a.add i).add j = a.add (i + j) := by
  unfold Addr.add
  by_cases hi : i = 0 <;> by_cases hj : j = 0 <;> simp [hi, hj, Nat.add_assoc]
theorem Rd.take {k : IntKind} {w : World} {A : Option Addr} {zs : List Int} (h : Rd k w A zs) (m : Nat) : Rd k w A (zs.take m) := by
  intro j v hv
  rw [List.getElem?_take] at hv
  split at hv
  · exact h j v hv
  · cases hv
theorem Rd.drop {k : IntKind} {w : World} {ad : Addr} {zs : List Int} (h : Rd k w (some ad) zs) (m : Nat) : Rd k w (some (ad.add m)) (zs.drop m) := by
  intro j v hv
  rw [List.getElem?_drop] at hv
  exact ⟨_, rfl, by rw [add_add']; exact h.at hv⟩
/-- What 'append' reads. -/
theorem Rd.news {k : IntKind} {w w1 : World} {ad : Addr} {zs : List Int} (h : Rd k w (some ad) zs) (hb : Below w.heap.size w w1) : ∀ j u, (zs.map (Value.int k))[j]? = some u → w1.cell? (ad.add j) = some u := by
  intro j u hj
  rw [List.getElem?_map] at hj
  obtain ⟨v, hv, rfl⟩ := Option.map_eq_some_iff.1 hj
  exact cell_up (h.at hv) hb
theorem one_ints (k : IntKind) (l : List Int) : ∀ u ∈ l.map (Value.int k), u.oneCell' = true := by
  intro u hu
  obtain ⟨v, _, rfl⟩ := List.mem_map.1 hu
  rfl
theorem own_empty (w : World) (e : TypeId) (size base : Nat) (hb : base ≤ w.heap.size) : (w.alloc (.cells #[] e)).ownsRow base e size (.slice (some ⟨w.heap.size, 0, none⟩) 0 0) 0 [] :=
  ⟨by simp, .inr ⟨w.heap.size, 0, #[], rfl, hb, heap_alloc_new w _, Nat.le_refl _, by simp, by simp, by simp⟩⟩
theorem app_below {X w2 : World} {o : Obj} {g : Nat} (h : (X.alloc o).grownBy w2 (some g)) (hg : X.heap.size ≤ g) : Below X.heap.size X w2 :=
  ((Below.refl _ _).alloc (Nat.le_refl _) o).grown h (by simp) (fun k hk => by injection hk with hk; omega)
theorem own_rd {k : IntKind} {w : World} {base : Nat} {e : TypeId} {v : Value} {n : Nat} {zs : List Int} (h : w.ownsRow base e 1 v n (zs.map (Value.int k))) : ∃ A cap, v = .slice A n cap ∧ Rd k w A zs ∧ n ≤ cap ∧ cap ≤ maxLen ∧ (A = none → n = 0 ∧ cap = 0) := by
  have h0 := h
  obtain ⟨h1, h2⟩ := h
  rcases h2 with ⟨rfl, rfl⟩ | ⟨g, cap, cur, rfl, hbase, hh, hl, hm, _⟩
  · refine ⟨none, 0, rfl, ?_, Nat.le_refl _, by simp, fun _ => ⟨rfl, rfl⟩⟩
    intro j v hk
    have : zs = [] := by simpa using h1
    subst this
    simp at hk
  · refine ⟨some ⟨g, 0, none⟩, cap, rfl, ?_, hl, hm, fun h => by cases h⟩
    intro j v hk
    exact ⟨_, rfl, h0.cells (g := g) rfl j _ (by rw [List.getElem?_map, hk]; rfl)⟩
def In64 (zs : List Int) : Prop := ∀ v ∈ zs, -9223372036854775808 ≤ v ∧ v ≤ 9223372036854775807
theorem in64_take {zs : List Int} (h : In64 zs) (m : Nat) : In64 (zs.take m) := fun v hv => h v (List.mem_of_mem_take hv)
theorem in64_drop {zs : List Int} (h : In64 zs) (m : Nat) : In64 (zs.drop m) := fun v hv => h v (List.mem_of_mem_drop hv)
theorem In64.at {zs : List Int} (h : In64 zs) {j : Nat} {v : Int} (hv : zs[j]? = some v) : -9223372036854775808 ≤ v ∧ v ≤ 9223372036854775807 := h v (List.mem_of_getElem? hv)
/-- 'append' onto a row that the call owns (not nil), of whatever slice of numbers: nil too: at the operation. -/
theorem app_wp {P : Program} {w : World} {o : Oper} {a : Act} {K : Act → World → Prop} {Q : Exit → Act → World → Prop} (k : IntKind) (s x : Operand) (t : TypeId)
    (ho : o.op = .call { callee := .builtin .append, args := #[s, x], argTypes := #[t, t] })
    (base : Nat) (e : TypeId) (i : TypeInfo) (bytes : Nat) (ht : P.underlying t = some (.slice e)) (hi : P.info? e = some i) (hz : i.zero = some (.int k 0)) (hsize : i.size = 1) (hby : i.bytes = bytes)
    (v : Value) (n : Nat) (xs : List Int) (hs : a.eval s = v) (hown : w.ownsRow base e 1 v n (xs.map (Value.int k))) (hv : v ≠ .slice none 0 0)
    (A : Option Addr) (m c : Nat) (zs : List Int) (hx : a.eval x = .slice A m c) (hA : A = none → m = 0 ∧ c = 0) (hl : zs.length = m) (hr : Rd k w A zs) (h63 : n + m ≤ maxLen) (hbytes : (n + m) * bytes ≤ 140737488355328) (hbase : base ≤ w.heap.size)
    (h : ∀ A' cap' w', w'.ownsRow base e 1 (.slice (some A') (n + m) cap') (n + m) ((xs ++ zs).map (Value.int k)) → w.grownBy w' v.ownBlock → Rd k w' (some A') (xs ++ zs) → n + m ≤ cap' → cap' ≤ maxLen → K (a.put o.dst (.slice (some A') (n + m) cap')) w') :
    o.wp P a w K Q := by
  cases A with
  | none =>
    obtain ⟨rfl, rfl⟩ := hA rfl
    obtain rfl : zs = [] := List.eq_nil_of_length_eq_zero hl
    obtain ⟨A', cap', hv', hrd, h1, h2, h3⟩ := own_rd hown
    have hrun := run_append_owned_none (P := P) (w := w) base t o.type e i 1 ht hi v n _ hown
    cases A' with
    | none => obtain ⟨rfl, rfl⟩ := h3 rfl; exact absurd hv' hv
    | some A' =>
      have hh := h A' cap' w (by rw [List.append_nil]; have h5 := hown; rw [hv'] at h5; exact h5) ⟨rfl, rfl, rfl, Nat.le_refl _, fun _ _ _ => rfl⟩ (by rw [List.append_nil]; exact hrd) h1 h2
      unfold Oper.wp
      simp [execOp, ho, resolve, invoke, builtin, hs, hx, hrun, Result.andThen]
      rw [hv']
      exact hh
  | some ad =>
    refine wp_append_own w s x t ho base e i (.int k 0) 1 bytes ht hi hz hsize hby rfl (by decide) v n _ hs hown ad m c (zs.map (Value.int k)) hx (by simp; omega) (hr.news (Below.refl _ _)) (one_ints _ _) h63 hbytes hbase ?_
    intro v' w' hown2 hgrow hnil
    rw [← List.map_append] at hown2
    obtain ⟨A', cap', rfl, hrd, h1, h2, h3⟩ := own_rd hown2
    cases A' with
    | none =>
      obtain ⟨h4, rfl⟩ := h3 rfl
      rw [h4] at hnil
      exact absurd (hnil.1 rfl).1 hv
    | some A' => exact h A' cap' w' hown2 hgrow hrd h1 h2
/-- .. at the list of a plain region's operations. -/
theorem app_any {P : Program} {w : World} {ops : Array Oper} {rest : List Oper} {o : Oper} {a : Act} {Q : Exit → Act → World → Prop} (k : IntKind) (hgd : o.guard = none) (s x : Operand) (t : TypeId)
    (ho : o.op = .call { callee := .builtin .append, args := #[s, x], argTypes := #[t, t] })
    (base : Nat) (e : TypeId) (i : TypeInfo) (bytes : Nat) (ht : P.underlying t = some (.slice e)) (hi : P.info? e = some i) (hz : i.zero = some (.int k 0)) (hsize : i.size = 1) (hby : i.bytes = bytes)
    (v : Value) (n : Nat) (xs : List Int) (hs : a.eval s = v) (hown : w.ownsRow base e 1 v n (xs.map (Value.int k))) (hv : v ≠ .slice none 0 0)
    (A : Option Addr) (m c : Nat) (zs : List Int) (hx : a.eval x = .slice A m c) (hA : A = none → m = 0 ∧ c = 0) (hl : zs.length = m) (hr : Rd k w A zs) (h63 : n + m ≤ maxLen) (hbytes : (n + m) * bytes ≤ 140737488355328) (hbase : base ≤ w.heap.size)
    (h : ∀ A' cap' w', w'.ownsRow base e 1 (.slice (some A') (n + m) cap') (n + m) ((xs ++ zs).map (Value.int k)) → w.grownBy w' v.ownBlock → Rd k w' (some A') (xs ++ zs) → n + m ≤ cap' → cap' ≤ maxLen → wpList P ops Q rest (a.put o.dst (.slice (some A') (n + m) cap')) w') :
    wpList P ops Q (o :: rest) a w :=
  wpList_plain hgd fun _ hK => app_wp k s x t ho base e i bytes ht hi hz hsize hby v n xs hs hown hv A m c zs hx hA hl hr h63 hbytes hbase fun A' cap' w' g1 g2 g3 g4 g5 => hK _ _ (h A' cap' w' g1 g2 g3 g4 g5)
theorem below_call {B : Nat} {W0 wa w1 : World} (h : Below B W0 wa) (hb : Below wa.heap.size wa w1) (hB : B ≤ W0.heap.size) : Below B W0 w1 :=
  h.trans (hb.mono (Nat.le_trans hB h.size))
theorem own_ge {w : World} {base : Nat} {e : TypeId} {size : Nat} {v : Value} {n : Nat} {xs : List Value} (h : w.ownsRow base e size v n xs) : ∀ k, v.ownBlock = some k → base ≤ k := by
  obtain ⟨_, h2⟩ := h
  rcases h2 with ⟨rfl, _⟩ | ⟨g, cap, cur, rfl, hbase, _⟩
  · intro k hk; simp [Value.ownBlock] at hk
  · intro k hk; simp [Value.ownBlock] at hk; omega
theorem rd_one {k : IntKind} {w : World} {B : Nat} {x : Int} (h : w.cell? ⟨B, 0, none⟩ = some (.int k x)) : Rd k w (some ⟨B, 0, none⟩) [x] := by
  intro j v hj
  match j, hj with
  | 0, hj =>
    simp at hj
    subst hj
    exact ⟨_, rfl, by simpa [Addr.add] using h⟩
theorem rd2 {k : IntKind} {w : World} {B : Nat} {a b : Int} (h0 : w.cell? ⟨B, 0, none⟩ = some (.int k a)) (h1 : w.cell? ⟨B, 1, none⟩ = some (.int k b)) : Rd k w (some ⟨B, 0, none⟩) [a, b] := by
  intro j v hj
  match j, hj with
  | 0, hj =>
    simp at hj
    subst hj
    exact ⟨_, rfl, by simpa [Addr.add] using h0⟩
  | 1, hj =>
    simp at hj
    subst hj
    exact ⟨_, rfl, by simpa [Addr.add] using h1⟩
def Apart (a b : Value) : Prop := ∀ g, a.ownBlock = some g → b.ownBlock ≠ some g
theorem Apart.symm {a b : Value} (h : Apart a b) : Apart b a := fun g hb ha => h g ha hb
theorem own_lt {w : World} {base : Nat} {e : TypeId} {size : Nat} {v : Value} {n : Nat} {xs : List Value} (h : w.ownsRow base e size v n xs) {g : Nat} (hg : v.ownBlock = some g) : g < w.heap.size := by
  obtain ⟨_, h2⟩ := h
  rcases h2 with ⟨rfl, _⟩ | ⟨b, cap, cur, rfl, hbase, hh, _⟩
  · simp [Value.ownBlock] at hg
  · simp [Value.ownBlock] at hg
    subst hg
    rcases Nat.lt_or_ge b w.heap.size with h1 | h1
    · exact h1
    · rw [Array.getElem?_eq_none h1] at hh; cases hh
/-- One value appended to a row of one's own (whatever it holds); rows apart stay, and stay apart. -/
theorem app_val {P : Program} {w : World} {ops : Array Oper} {rest : List Oper} {o : Oper} {a : Act} {Q : Exit → Act → World → Prop} (hgd : o.guard = none) (s x : Operand) (t : TypeId)
    (ho : o.op = .call { callee := .builtin .append, args := #[s, x], argTypes := #[t, t] })
    (base : Nat) (e : TypeId) (i : TypeInfo) (z : Value) (bytes : Nat) (ht : P.underlying t = some (.slice e)) (hi : P.info? e = some i) (hz : i.zero = some z) (hsize : i.size = 1) (hby : i.bytes = bytes) (hzs : z.cells.size = 1)
    (v : Value) (n : Nat) (xs : List Value) (hs : a.eval s = v) (hown : w.ownsRow base e 1 v n xs)
    (X : Value) (B : Nat) (hx : a.eval x = .slice (some ⟨B, 0, none⟩) 1 1) (hc : ∀ j u, ([X] : List Value)[j]? = some u → w.cell? ((⟨B, 0, none⟩ : Addr).add j) = some u) (hX : X.oneCell' = true) (h63 : n + 1 ≤ maxLen) (hbytes : (n + 1) * bytes ≤ 140737488355328) (hbase : base ≤ w.heap.size)
    (h : ∀ g cap w', w'.ownsRow base e 1 (.slice (some ⟨g, 0, none⟩) (n + 1) cap) (n + 1) (xs ++ [X]) → w.grownBy w' v.ownBlock → (v.ownBlock = some g ∨ g = w.heap.size) → g < w'.heap.size → wpList P ops Q rest (a.put o.dst (.slice (some ⟨g, 0, none⟩) (n + 1) cap)) w') :
    wpList P ops Q (o :: rest) a w :=
  wpList_append_lies w hgd s x t ho base e i z 1 bytes ht hi hz hsize hby hzs (by decide) v n xs hs hown ⟨B, 0, none⟩ 1 1 [X] hx rfl hc (by intro u hu; simp at hu; subst hu; exact hX) (by decide) h63 hbytes hbase w.heap.size rfl h
end Go.Proofs.YtkflggojiiebeaaGreat.Lw

namespace Go.Proofs.YtkflggojiiebeaaGreat.Lw
open Go Go.RowKit
set_option linter.unusedVariables false
/-- w' is w, but for the blocks F and new ones. -/
structure Kept (F : Nat → Prop) (w w' : World) : Prop where
  os : w'.os = w.os
  tape : w'.tape = w.tape
  output : w'.output = w.output
  size : w.heap.size ≤ w'.heap.size
  block : ∀ k, k < w.heap.size → ¬ F k → w'.heap[k]? = w.heap[k]?
theorem Kept.refl (F : Nat → Prop) (w : World) : Kept F w w := ⟨rfl, rfl, rfl, Nat.le_refl _, fun _ _ _ => rfl⟩
theorem Kept.of_below {F : Nat → Prop} {w w' : World} (h : Below w.heap.size w w') : Kept F w w' :=
  ⟨h.1, h.2, h.3, h.4, fun k hk _ => h.5 k hk⟩
theorem Kept.mono {F G : Nat → Prop} {w w' : World} (h : Kept F w w') (hf : ∀ k, k < w.heap.size → F k → G k) : Kept G w w' :=
  ⟨h.os, h.tape, h.output, h.size, fun k hk hg => h.block k hk fun hF => hg (hf k hk hF)⟩
theorem Kept.trans {F G : Nat → Prop} {w w1 w2 : World} (h : Kept F w w1) (g : Kept G w1 w2) (hf : ∀ k, k < w.heap.size → G k → F k) : Kept F w w2 :=
  ⟨g.os.trans h.os, g.tape.trans h.tape, g.output.trans h.output, Nat.le_trans h.size g.size,
    fun k hk hF => (g.block k (Nat.lt_of_lt_of_le hk h.size) fun hG => hF (hf k hk hG)).trans (h.block k hk hF)⟩
theorem Kept.then {F : Nat → Prop} {w w1 w2 : World} (h : Kept F w w1) (g : Below w1.heap.size w1 w2) : Kept F w w2 :=
  h.trans (Kept.of_below (F := fun _ => False) g) (fun _ _ h => h.elim)
theorem Kept.below {w w' : World} (h : Kept (fun _ => False) w w') : Below w.heap.size w w' :=
  ⟨h.os, h.tape, h.output, h.size, fun k hk => h.block k hk fun h => h⟩
theorem Kept.alloc {F : Nat → Prop} {w w1 : World} (h : Kept F w w1) (o : Obj) : Kept F w (w1.alloc o) := h.then (Lw.below_alloc (Below.refl _ _) o)
theorem Kept.drew {F : Nat → Prop} {w w1 : World} (h : Kept F w w1) : Kept F w w1.drew := h.then (Below.drew (Below.refl _ _))
theorem Kept.drewN {F : Nat → Prop} {w w1 : World} (h : Kept F w w1) (n : Nat) : Kept F w (w1.drewN n) := h.then (below_drewN (Below.refl _ _) n)
theorem Kept.set {F : Nat → Prop} {w w1 : World} (h : Kept F w w1) {g : Nat} (hg : F g ∨ w.heap.size ≤ g) (i : Nat) (v : Value) : Kept F w (w1.setCell ⟨g, i, none⟩ v) := by
  refine ⟨h.os, h.tape, h.output, by simpa [World.setCell] using h.size, ?_⟩
  intro k hk hF
  rw [← h.block k hk hF]
  simp only [World.setCell, Array.getElem?_modify]
  rw [if_neg]
  rintro rfl
  rcases hg with hg | hg
  · exact hF hg
  · omega
theorem Kept.grown {F : Nat → Prop} {w X w2 : World} {row : Option Nat} (h : Kept F w X) (g : X.grownBy w2 row) (hrow : ∀ q, row = some q → F q ∨ w.heap.size ≤ q) : Kept F w w2 := by
  refine ⟨g.os.trans h.os, g.tape.trans h.tape, g.output.trans h.output, Nat.le_trans h.size g.size, ?_⟩
  intro k hk hF
  refine (g.block k (Nat.lt_of_lt_of_le hk h.size) ?_).trans (h.block k hk hF)
  intro e
  rcases hrow k e.symm with h1 | h1
  · exact hF h1
  · omega
theorem Kept.low {F : Nat → Prop} {B : Nat} {w0 w w' : World} (h : Kept F w w') (hb : Below B w0 w) (hB : B ≤ w.heap.size) (hf : ∀ q, F q → B ≤ q) : Below B w0 w' :=
  ⟨h.os.trans hb.1, h.tape.trans hb.2, h.output.trans hb.3, Nat.le_trans hb.4 h.size, fun k hk => (h.block k (by omega) fun hF => by have := hf k hF; omega).trans (hb.5 k hk)⟩
theorem Kept.heap {F : Nat → Prop} {w w' : World} (h : Kept F w w') {b : Nat} {o : Obj} (hb : w.heap[b]? = some o) (hf : ¬ F b) : w'.heap[b]? = some o := by
  have hlt : b < w.heap.size := by
    rcases Nat.lt_or_ge b w.heap.size with h1 | h1
    · exact h1
    · rw [Array.getElem?_eq_none h1] at hb; cases hb
  rw [h.block b hlt hf, hb]
theorem Kept.cell {F : Nat → Prop} {w w' : World} (h : Kept F w w') {a : Addr} {v : Value} (hc : w.cell? a = some v) (hf : ¬ F a.block) : w'.cell? a = some v := by
  rw [World.cell?_of_block (h.block a.block (cell_lt hc) hf), hc]
theorem Kept.own {F : Nat → Prop} {w w' : World} {base : Nat} {e : TypeId} {size : Nat} {v : Value} {n : Nat} {xs : List Value} (h : Kept F w w') (ho : w.ownsRow base e size v n xs) (hf : ∀ q, v.ownBlock = some q → ¬ F q) : w'.ownsRow base e size v n xs := by
  refine ⟨ho.1, ?_⟩
  rcases ho.2 with h0 | ⟨g, cap, cur, rfl, hb, hg, h1, h2, h3, h4⟩
  · exact .inl h0
  · exact .inr ⟨g, cap, cur, rfl, hb, h.heap hg (hf g rfl), h1, h2, h3, h4⟩
theorem Rd.keep {k : IntKind} {F : Nat → Prop} {w w' : World} {A : Option Addr} {zs : List Int} (h : Rd k w A zs) (g : Kept F w w') (hf : ∀ a, A = some a → ¬ F a.block) : Rd k w' A zs := by
  intro j v hv
  obtain ⟨ad, e, hc⟩ := h j v hv
  refine ⟨ad, e, g.cell hc ?_⟩
  have hbl : (ad.add j).block = ad.block := by unfold Addr.add; split <;> rfl
  rw [hbl]
  exact hf ad e
end Go.Proofs.YtkflggojiiebeaaGreat.Lw

namespace Go.Proofs.YtkflggojiiebeaaGreat.Lw
open Go Go.RowKit
set_option linter.unusedVariables false
/-- A thing: what holds of it, its blocks; what else is turned leaves it. -/
structure Thing where
  I : World → Prop
  F : Nat → Prop
  keep : ∀ (w w' : World) (H : Nat → Prop), I w → Kept H w w' → (∀ k, F k → ¬ H k) → I w'
  lt : ∀ w, I w → ∀ k, F k → k < w.heap.size
/-- The things ts, apart, all made behind w0; what was there at w0 is as it was. -/
def Have (w0 w : World) : List Thing → Prop
  | [] => Below w0.heap.size w0 w
  | t :: ts => t.I w ∧ (∀ k, t.F k → w0.heap.size ≤ k) ∧ (∀ u ∈ ts, ∀ k, t.F k → ¬ u.F k) ∧ Have w0 w ts
theorem Have.below {w0 w : World} : ∀ {ts : List Thing}, Have w0 w ts → Below w0.heap.size w0 w
  | [], h => h
  | t :: ts, h => Have.below (ts := ts) h.2.2.2
theorem Have.one {w0 w : World} : ∀ {ts : List Thing}, Have w0 w ts → ∀ t ∈ ts, t.I w ∧ (∀ k, t.F k → w0.heap.size ≤ k)
  | [], h, t, ht => by simp at ht
  | s :: ts, h, t, ht => by
    rcases List.mem_cons.1 ht with rfl | ht
    · exact ⟨h.1, h.2.1⟩
    · exact Have.one (ts := ts) h.2.2.2 t ht
theorem Have.keep {w0 w w' : World} {H : Nat → Prop} (hk : Kept H w w') (hb : Below w0.heap.size w0 w') : ∀ {ts : List Thing}, Have w0 w ts → (∀ t ∈ ts, ∀ k, t.F k → ¬ H k) → Have w0 w' ts
  | [], h, _ => hb
  | t :: ts, h, hf => ⟨t.keep w w' H h.1 hk (hf t (by simp)), h.2.1, h.2.2.1, Have.keep hk hb (ts := ts) h.2.2.2 (fun u hu => hf u (by simp [hu]))⟩
theorem Have.up {w0 w w' : World} {ts : List Thing} (h : Have w0 w ts) (hb : Below w.heap.size w w') : Have w0 w' ts :=
  Have.keep (H := fun _ => False) (Kept.of_below hb) (h.below.trans (hb.mono h.below.size)) h (fun _ _ _ _ => fun h => h)
theorem Have.nil (w : World) : Have w w [] := Below.refl _ _
/-- A new thing. -/
theorem Have.push {w0 w w' : World} {ts : List Thing} (h : Have w0 w ts) (t : Thing) (hb : Below w.heap.size w w') (ht : t.I w') (hn : ∀ k, t.F k → w.heap.size ≤ k) : Have w0 w' (t :: ts) := by
  refine ⟨ht, fun k hk => Nat.le_trans h.below.size (hn k hk), fun u hu k hk hu2 => ?_, h.up hb⟩
  have h1 := u.lt w (h.one u hu).1 k hu2
  have h2 := hn k hk
  omega
theorem Have.below_kept {w0 w w' : World} {ts : List Thing} (h : Have w0 w ts) {t : Thing} (ht : t ∈ ts) (hk : Kept t.F w w') : Below w0.heap.size w0 w' :=
  hk.low h.below h.below.size (fun q hq => (h.one t ht).2 q hq)
/-- The first thing is turned. -/
theorem Have.turn0 {w0 w w' : World} {t : Thing} {ts : List Thing} (h : Have w0 w (t :: ts)) (t' : Thing) (ht : t'.I w') (hk : Kept t.F w w') (hF : ∀ k, t'.F k → t.F k ∨ w.heap.size ≤ k) : Have w0 w' (t' :: ts) := by
  have hb := h.below_kept (t := t) (by simp) hk
  refine ⟨ht, fun k hk' => ?_, fun u hu k hk' hu2 => ?_, Have.keep hk hb h.2.2.2 (fun u hu k h1 h2 => h.2.2.1 u hu k h2 h1)⟩
  · rcases hF k hk' with h1 | h1
    · exact h.2.1 k h1
    · exact Nat.le_trans h.below.size h1
  · rcases hF k hk' with h1 | h1
    · exact h.2.2.1 u hu k h1 hu2
    · have := u.lt w (h.one u (by simp [hu])).1 k hu2
      omega
/-- A thing behind the first is turned. -/
theorem Have.under {w0 w w' : World} {s : Thing} {ts ts' : List Thing} (h : Have w0 w (s :: ts)) (H : Nat → Prop) (hk : Kept H w w') (hs : ∀ k, s.F k → ¬ H k) (h' : Have w0 w' ts') (hF : ∀ u' ∈ ts', ∀ k, u'.F k → (∃ u ∈ ts, u.F k) ∨ w.heap.size ≤ k) : Have w0 w' (s :: ts') := by
  refine ⟨s.keep w w' H h.1 hk hs, h.2.1, fun u' hu k h1 h2 => ?_, h'⟩
  rcases hF u' hu k h2 with ⟨u, hu, h3⟩ | h3
  · exact h.2.2.1 u hu k h1 h3
  · have := s.lt w h.1 k h1
    omega
theorem Have.turn1 {w0 w w' : World} {s t : Thing} {ts : List Thing} (h : Have w0 w (s :: t :: ts)) (t' : Thing) (ht : t'.I w') (hk : Kept t.F w w') (hF : ∀ k, t'.F k → t.F k ∨ w.heap.size ≤ k) : Have w0 w' (s :: t' :: ts) := by
  refine h.under t.F hk (fun k h1 h2 => h.2.2.1 t (by simp) k h1 h2) (Have.turn0 h.2.2.2 t' ht hk hF) ?_
  intro u hu k hk
  rcases List.mem_cons.1 hu with rfl | hu
  · rcases hF k hk with h1 | h1
    · exact .inl ⟨t, by simp, h1⟩
    · exact .inr h1
  · exact .inl ⟨u, by simp [hu], hk⟩
/-- The first thing is left aside. -/
theorem Have.drop {w0 w : World} {t : Thing} {ts : List Thing} (h : Have w0 w (t :: ts)) : Have w0 w ts := h.2.2.2
theorem Have.apart {w0 w : World} {t u : Thing} {ts : List Thing} (h : Have w0 w (t :: ts)) (hu : u ∈ ts) : ∀ k, t.F k → ¬ u.F k := h.2.2.1 u hu
/-- The thing behind the first is left aside. -/
theorem Have.erase1 {w0 w : World} {s t : Thing} {ts : List Thing} (h : Have w0 w (s :: t :: ts)) : Have w0 w (s :: ts) :=
  ⟨h.1, h.2.1, fun u hu => h.2.2.1 u (by simp [hu]), h.2.2.2.2.2.2⟩
/-- A variable of its own: a block whose cells are known. -/
def boxT (b : Nat) (e : TypeId) (vs : Array Value) : Thing where
  I := fun w => w.heap[b]? = some (.cells vs e (0, 0))
  F := fun k => k = b
  keep := fun w w' H h hk hf => hk.heap h (hf b rfl)
  lt := fun w h k hk => by
    subst hk
    rcases Nat.lt_or_ge k w.heap.size with h1 | h1
    · exact h1
    · rw [Array.getElem?_eq_none h1] at h; cases h
theorem box_cell {w : World} {b : Nat} {e : TypeId} {vs : Array Value} (h : (boxT b e vs).I w) {i : Nat} {v : Value} (hv : vs[i]? = some v) : w.cell? ⟨b, i, none⟩ = some v := by
  have h2 : w.heap[b]? = some (.cells vs e (0, 0)) := h
  simp [World.cell?, h2, hv]
theorem box_lt {w : World} {b : Nat} {e : TypeId} {vs : Array Value} (h : (boxT b e vs).I w) : b < w.heap.size := (boxT b e vs).lt w h b rfl
theorem box_new (w : World) (e : TypeId) (vs : Array Value) : Have w (w.alloc (.cells vs e)) [boxT w.heap.size e vs] :=
  (Have.nil w).push (boxT w.heap.size e vs) (Lw.below_alloc (Below.refl _ _) _) (heap_alloc_new w _) (fun k hk => Nat.le_of_eq hk.symm)
end Go.Proofs.YtkflggojiiebeaaGreat.Lw

namespace Go.Proofs.YtkflggojiiebeaaGreat.Lw
open Go Go.RowKit
set_option linter.unusedVariables false
theorem Have.turnX {w0 w w' : World} {t : Thing} {ts : List Thing} (t' : Thing) (ht : t'.I w') (hk : Kept t.F w w') (hF : ∀ k, t'.F k → t.F k ∨ w.heap.size ≤ k) : ∀ {fs : List Thing}, Have w0 w (fs ++ t :: ts) → Have w0 w' (fs ++ t' :: ts)
  | [], h => Have.turn0 h t' ht hk hF
  | a :: fs, h => by
    refine Have.under (ts := fs ++ t :: ts) h t.F hk (fun k h1 h2 => h.2.2.1 t (by simp) k h1 h2) (Have.turnX t' ht hk hF (fs := fs) h.2.2.2) ?_
    intro u hu k hk2
    rcases List.mem_append.1 hu with h1 | h1
    · exact .inl ⟨u, by simp [h1], hk2⟩
    · rcases List.mem_cons.1 h1 with rfl | h1
      · rcases hF k hk2 with h3 | h3
        · exact .inl ⟨t, by simp, h3⟩
        · exact .inr h3
      · exact .inl ⟨u, by simp [h1], hk2⟩
theorem Have.dropX {w0 w : World} {t : Thing} {ts : List Thing} : ∀ {fs : List Thing}, Have w0 w (fs ++ t :: ts) → Have w0 w (fs ++ ts)
  | [], h => h.2.2.2
  | a :: fs, h => ⟨h.1, h.2.1, fun u hu => h.2.2.1 u (by rcases List.mem_append.1 hu with h1 | h1 <;> simp [h1]), Have.dropX (fs := fs) h.2.2.2⟩
theorem Have.far {w0 w : World} {ts : List Thing} (h : Have w0 w ts) {t : Thing} (ht : t ∈ ts) : ∀ k, t.F k → w0.heap.size ≤ k := (h.one t ht).2
theorem Have.i0 {w0 w : World} {t0 : Thing} {ts : List Thing} (h : Have w0 w (t0 :: ts)) : t0.I w := (h.one t0 (by simp)).1
theorem Have.f0 {w0 w : World} {t0 : Thing} {ts : List Thing} (h : Have w0 w (t0 :: ts)) : ∀ k, t0.F k → w0.heap.size ≤ k := (h.one t0 (by simp)).2
theorem Have.turn_0 {w0 w w' : World} {t0 : Thing} {ts : List Thing} (h : Have w0 w (t0 :: ts)) (t' : Thing) (ht : t'.I w') (hk : Kept t0.F w w') (hF : ∀ k, t'.F k → t0.F k ∨ w.heap.size ≤ k) : Have w0 w' (t' :: ts) := Have.turnX (fs := []) t' ht hk hF h
theorem Have.drop_0 {w0 w : World} {t0 : Thing} {ts : List Thing} (h : Have w0 w (t0 :: ts)) : Have w0 w (ts) := Have.dropX (fs := []) h
theorem Have.i1 {w0 w : World} {t0 t1 : Thing} {ts : List Thing} (h : Have w0 w (t0 :: t1 :: ts)) : t1.I w := (h.one t1 (by simp)).1
theorem Have.f1 {w0 w : World} {t0 t1 : Thing} {ts : List Thing} (h : Have w0 w (t0 :: t1 :: ts)) : ∀ k, t1.F k → w0.heap.size ≤ k := (h.one t1 (by simp)).2
theorem Have.i2 {w0 w : World} {t0 t1 t2 : Thing} {ts : List Thing} (h : Have w0 w (t0 :: t1 :: t2 :: ts)) : t2.I w := (h.one t2 (by simp)).1
theorem Have.f2 {w0 w : World} {t0 t1 t2 : Thing} {ts : List Thing} (h : Have w0 w (t0 :: t1 :: t2 :: ts)) : ∀ k, t2.F k → w0.heap.size ≤ k := (h.one t2 (by simp)).2
theorem Have.turn_2 {w0 w w' : World} {t0 t1 t2 : Thing} {ts : List Thing} (h : Have w0 w (t0 :: t1 :: t2 :: ts)) (t' : Thing) (ht : t'.I w') (hk : Kept t2.F w w') (hF : ∀ k, t'.F k → t2.F k ∨ w.heap.size ≤ k) : Have w0 w' (t0 :: t1 :: t' :: ts) := Have.turnX (fs := [t0, t1]) t' ht hk hF h
theorem Have.i3 {w0 w : World} {t0 t1 t2 t3 : Thing} {ts : List Thing} (h : Have w0 w (t0 :: t1 :: t2 :: t3 :: ts)) : t3.I w := (h.one t3 (by simp)).1
theorem Have.f3 {w0 w : World} {t0 t1 t2 t3 : Thing} {ts : List Thing} (h : Have w0 w (t0 :: t1 :: t2 :: t3 :: ts)) : ∀ k, t3.F k → w0.heap.size ≤ k := (h.one t3 (by simp)).2
theorem Have.i4 {w0 w : World} {t0 t1 t2 t3 t4 : Thing} {ts : List Thing} (h : Have w0 w (t0 :: t1 :: t2 :: t3 :: t4 :: ts)) : t4.I w := (h.one t4 (by simp)).1
theorem Have.f4 {w0 w : World} {t0 t1 t2 t3 t4 : Thing} {ts : List Thing} (h : Have w0 w (t0 :: t1 :: t2 :: t3 :: t4 :: ts)) : ∀ k, t4.F k → w0.heap.size ≤ k := (h.one t4 (by simp)).2
theorem Have.f6 {w0 w : World} {t0 t1 t2 t3 t4 t5 t6 : Thing} {ts : List Thing} (h : Have w0 w (t0 :: t1 :: t2 :: t3 :: t4 :: t5 :: t6 :: ts)) : ∀ k, t6.F k → w0.heap.size ≤ k := (h.one t6 (by simp)).2
theorem Have.f7 {w0 w : World} {t0 t1 t2 t3 t4 t5 t6 t7 : Thing} {ts : List Thing} (h : Have w0 w (t0 :: t1 :: t2 :: t3 :: t4 :: t5 :: t6 :: t7 :: ts)) : ∀ k, t7.F k → w0.heap.size ≤ k := (h.one t7 (by simp)).2
end Go.Proofs.YtkflggojiiebeaaGreat.Lw

namespace Go.Proofs.YtkflggojiiebeaaGreat.Lw
open Go Go.RowKit
theorem wrap_bv (x : BitVec 64) : IntKind.i64.wrap (x.toNat : Int) = x.toInt := by
  have h := x.isLt
  rw [IntKind.wrap_i64, BitVec.toInt_eq_toNat_cond]
  split <;> omega
theorem bv_of (a : Int) (h0 : -9223372036854775808 ≤ a) (h1 : a ≤ 9223372036854775807) : (BitVec.ofInt 64 a).toInt = a := by
  rw [BitVec.toInt_ofInt]; simp [Int.bmod]; omega
theorem and_i64 (a b : Int) : bits .and .i64 a b = (BitVec.ofInt 64 a &&& BitVec.ofInt 64 b).toInt := wrap_bv _
theorem and16i (n : Int) : bits .and .i64 n 65535 = n % 65536 := by
  rw [and_i64]
  have h2 : (BitVec.ofInt 64 n &&& BitVec.ofInt 64 65535).toNat = n.toNat % 65536 ∨ True := Or.inr trivial
  have e : (BitVec.ofInt 64 n &&& BitVec.ofInt 64 65535).toNat = (n % 18446744073709551616).toNat % 65536 := by
    rw [BitVec.toNat_and, BitVec.toNat_ofInt, BitVec.toNat_ofInt]
    have h := Nat.and_two_pow_sub_one_eq_mod (n % 18446744073709551616).toNat 16
    have e65 : ((65535 : Int) % ((2 ^ 64 : Nat) : Int)).toNat = 2 ^ 16 - 1 := by decide
    rw [e65, show ((2 ^ 64 : Nat) : Int) = 18446744073709551616 from by decide, h]
  rw [BitVec.toInt_eq_toNat_cond, e]
  split <;> omega
end Go.Proofs.YtkflggojiiebeaaGreat.Lw

namespace Go.Proofs.YtkflggojiiebeaaGreat.Fld
open Go Go.RowKit

def fold (x : Int) : Int := x % 2305843009213693951
def add (a b : Int) : Int := (a + b) % 2305843009213693951
def sub (a b : Int) : Int := (a - b) % 2305843009213693951
def mul (a b : Int) : Int := (a * b) % 2305843009213693951
def pow (a n : Int) : Int := (a ^ n.toNat) % 2305843009213693951
def inv (a : Int) : Int := pow a 2305843009213693949
theorem fold_bd (x : Int) : 0 ≤ fold x ∧ fold x ≤ 2305843009213693950 := by unfold fold; omega
theorem add_bd (x y : Int) : 0 ≤ add x y ∧ add x y ≤ 2305843009213693950 := by unfold add; omega
theorem sub_bd (x y : Int) : 0 ≤ sub x y ∧ sub x y ≤ 2305843009213693950 := by unfold sub; omega
theorem mod_bd (z : Int) : 0 ≤ z % 2305843009213693951 ∧ z % 2305843009213693951 ≤ 2305843009213693950 := by omega
theorem mul_bd (x y : Int) : 0 ≤ mul x y ∧ mul x y ≤ 2305843009213693950 := mod_bd _
theorem ret_int {k : IntKind} {a b : Int} (h : a = b) : Ending.returned (.int k a) = .returned (.int k b) := by rw [h]
theorem ret_two {k l : IntKind} {a b c d : Int} (h : a = b) (g : c = d) : Ending.returned (.tuple #[.int k a, .int l c]) = .returned (.tuple #[.int k b, .int l d]) := by rw [h, g]
theorem and61 (x : Int) (h0 : 0 ≤ x) (h1 : x ≤ 18446744073709551615) : bits .and .u64 x 2305843009213693951 = x % 2305843009213693952 := by
  rw [u64_and x 2305843009213693951 h0 (by omega) (by omega) (by omega)]
  have h := Nat.and_two_pow_sub_one_eq_mod x.toNat 61
  have e : ((2305843009213693951 : Int).toNat) = 2 ^ 61 - 1 := by decide
  rw [e, h]
  have e2 : (2 : Nat) ^ 61 = 2305843009213693952 := by decide
  rw [e2]; omega
theorem and32 (x : Int) (h0 : 0 ≤ x) (h1 : x ≤ 18446744073709551615) : bits .and .u64 x 4294967295 = x % 4294967296 := by
  rw [u64_and x 4294967295 h0 (by omega) (by omega) (by omega)]
  have h := Nat.and_two_pow_sub_one_eq_mod x.toNat 32
  have e : ((4294967295 : Int).toNat) = 2 ^ 32 - 1 := by decide
  rw [e, h]
  have e2 : (2 : Nat) ^ 32 = 4294967296 := by decide
  rw [e2]; omega
/-- The two halves of 'hi<<3 | lo>>61' do not meet. -/
theorem or3 (x y : Int) (h0 : 0 ≤ x) (h1 : x ≤ 2305843009213693951) (g0 : 0 ≤ y) (g1 : y ≤ 7) : bits .or .u64 (x * 8) y = x * 8 + y := by
  rw [u64_or (x * 8) y (by omega) (by omega) (by omega) (by omega)]
  have h := nat_join 3 (x * 8).toNat y.toNat (by simp; omega) (by simp; omega)
  rw [h]; omega

/-- 2^61 counts as 1. -/
theorem fold_parts (x : Int) : fold x = (x / 2305843009213693952 + x % 2305843009213693952) % 2305843009213693951 := by
  unfold fold
  have e : x = (x / 2305843009213693952 + x % 2305843009213693952) + 2305843009213693951 * (x / 2305843009213693952) := by omega
  generalize hs : x / 2305843009213693952 + x % 2305843009213693952 = s at e ⊢
  rw [e, Int.add_mul_emod_self_left]
theorem fold_sum (x : Int) (h0 : 0 ≤ x) (h1 : x ≤ 18446744073709551615) : IntKind.u64.wrap (x / 2305843009213693952 + bits .and .u64 x 2305843009213693951) = x / 2305843009213693952 + x % 2305843009213693952 ∧
    0 ≤ x / 2305843009213693952 + x % 2305843009213693952 ∧ x / 2305843009213693952 + x % 2305843009213693952 ≤ 2305843009213693958 := by
  rw [and61 x h0 h1]
  have hb : x / 2305843009213693952 ≤ 7 := by omega
  have hr : x % 2305843009213693952 ≤ 2305843009213693951 := by omega
  exact ⟨IntWalk.u64_in _ (by omega), by omega, by omega⟩
theorem fold_hi (x : Int) (h0 : 0 ≤ x) (h1 : x ≤ 18446744073709551615) (h : 2305843009213693951 ≤ IntKind.u64.wrap (x / 2305843009213693952 + bits .and .u64 x 2305843009213693951)) :
    IntKind.u64.wrap (IntKind.u64.wrap (x / 2305843009213693952 + bits .and .u64 x 2305843009213693951) - 2305843009213693951) = fold x := by
  obtain ⟨e, b0, b1⟩ := fold_sum x h0 h1
  rw [e] at h ⊢
  rw [fold_parts]
  generalize x / 2305843009213693952 + x % 2305843009213693952 = s at *
  rw [IntWalk.u64_in _ (by omega)]
  omega
theorem fold_lo (x : Int) (h0 : 0 ≤ x) (h1 : x ≤ 18446744073709551615) (h : IntKind.u64.wrap (x / 2305843009213693952 + bits .and .u64 x 2305843009213693951) < 2305843009213693951) :
    IntKind.u64.wrap (x / 2305843009213693952 + bits .and .u64 x 2305843009213693951) = fold x := by
  obtain ⟨e, b0, b1⟩ := fold_sum x h0 h1
  rw [e] at h ⊢
  rw [fold_parts]
  generalize x / 2305843009213693952 + x % 2305843009213693952 = s at *
  omega
theorem fold_of (x : Int) (h0 : 0 ≤ x) (h1 : x ≤ 2305843009213693950) : fold x = x := by unfold fold; omega
theorem add_fold (a b : Int) : fold (fold a + fold b) = add a b := by unfold fold add; omega
theorem mul_fold (a b : Int) : mul (fold a) (fold b) = mul a b := by unfold fold mul; rw [← Int.mul_emod]

theorem prod_bd (x y : Int) (h0 : 0 ≤ x) (h1 : x ≤ 4294967295) (g0 : 0 ≤ y) (g1 : y ≤ 4294967295) : 0 ≤ x * y ∧ x * y ≤ 18446744065119617025 := by
  refine ⟨Int.mul_nonneg h0 g0, ?_⟩
  have := Int.mul_le_mul h1 g1 g0 (by omega : (0 : Int) ≤ 4294967295)
  omega
theorem prod_parts (a b : Int) : a * b = (a / 4294967296 * (b / 4294967296)) * 18446744073709551616 + (a / 4294967296 * (b % 4294967296) + a % 4294967296 * (b / 4294967296)) * 4294967296 + a % 4294967296 * (b % 4294967296) := by
  have ea : a = a / 4294967296 * 4294967296 + a % 4294967296 := by omega
  have eb : b = b / 4294967296 * 4294967296 + b % 4294967296 := by omega
  generalize a / 4294967296 = A at *
  generalize a % 4294967296 = u at *
  generalize b / 4294967296 = B at *
  generalize b % 4294967296 = v at *
  subst ea eb
  simp only [Int.add_mul, Int.mul_add]
  have e1 : A * 4294967296 * (B * 4294967296) = A * B * 18446744073709551616 := by
    rw [Int.mul_assoc, Int.mul_left_comm 4294967296 B, ← Int.mul_assoc]; rfl
  have e2 : A * 4294967296 * v = A * v * 4294967296 := by rw [Int.mul_assoc, Int.mul_comm 4294967296 v, Int.mul_assoc]
  have e3 : u * (B * 4294967296) = u * B * 4294967296 := by rw [Int.mul_assoc]
  omega
theorem mul64_hi (a b : Int) (h0 : 0 ≤ a) (h1 : a ≤ 18446744073709551615) (g0 : 0 ≤ b) (g1 : b ≤ 18446744073709551615) :
    IntKind.u64.wrap (IntKind.u64.wrap (IntKind.u64.wrap (a / 4294967296 * (b / 4294967296)) + IntKind.u64.wrap (IntKind.u64.wrap (a / 4294967296 * bits .and .u64 b 4294967295) + IntKind.u64.wrap (bits .and .u64 a 4294967295 * bits .and .u64 b 4294967295) / 4294967296) / 4294967296)
      + IntKind.u64.wrap (bits .and .u64 (IntKind.u64.wrap (IntKind.u64.wrap (a / 4294967296 * bits .and .u64 b 4294967295) + IntKind.u64.wrap (bits .and .u64 a 4294967295 * bits .and .u64 b 4294967295) / 4294967296)) 4294967295 + IntKind.u64.wrap (bits .and .u64 a 4294967295 * (b / 4294967296))) / 4294967296)
    = a * b / 18446744073709551616 := by
  rw [and32 a h0 h1, and32 b g0 g1, prod_parts a b]
  have A0 : 0 ≤ a / 4294967296 ∧ a / 4294967296 ≤ 4294967295 := by omega
  have B0 : 0 ≤ b / 4294967296 ∧ b / 4294967296 ≤ 4294967295 := by omega
  have u0 : 0 ≤ a % 4294967296 ∧ a % 4294967296 ≤ 4294967295 := by omega
  have v0 : 0 ≤ b % 4294967296 ∧ b % 4294967296 ≤ 4294967295 := by omega
  have p11 := prod_bd _ _ A0.1 A0.2 B0.1 B0.2
  have p10 := prod_bd _ _ A0.1 A0.2 v0.1 v0.2
  have p01 := prod_bd _ _ u0.1 u0.2 B0.1 B0.2
  have p00 := prod_bd _ _ u0.1 u0.2 v0.1 v0.2
  generalize a / 4294967296 * (b / 4294967296) = x11 at *
  generalize a / 4294967296 * (b % 4294967296) = x10 at *
  generalize a % 4294967296 * (b / 4294967296) = x01 at *
  generalize a % 4294967296 * (b % 4294967296) = x00 at *
  rw [IntWalk.u64_in x00 (by omega), IntWalk.u64_in x10 (by omega), IntWalk.u64_in x01 (by omega), IntWalk.u64_in x11 (by omega)]
  rw [IntWalk.u64_in (x10 + x00 / 4294967296) (by omega)]
  rw [and32 (x10 + x00 / 4294967296) (by omega) (by omega)]
  rw [IntWalk.u64_in ((x10 + x00 / 4294967296) % 4294967296 + x01) (by omega)]
  rw [IntWalk.u64_in (x11 + (x10 + x00 / 4294967296) / 4294967296) (by omega)]
  rw [IntWalk.u64_in _ (by omega)]
  omega
theorem mul64_lo (a b : Int) : IntKind.u64.wrap (a * b) = a * b % 18446744073709551616 := by rw [IntKind.wrap_u64]

/-- What Mul makes of the 128 bits. -/
theorem mul_bits (a b : Int) (h0 : 0 ≤ a) (h1 : a ≤ 2305843009213693950) (g0 : 0 ≤ b) (g1 : b ≤ 2305843009213693950) :
    fold (IntKind.u64.wrap (bits .or .u64 (IntKind.u64.wrap (a * b / 18446744073709551616 * 8)) (a * b % 18446744073709551616 / 2305843009213693952) + bits .and .u64 (a * b % 18446744073709551616) 2305843009213693951)) = mul a b := by
  have t0 : 0 ≤ a * b := Int.mul_nonneg h0 g0
  have t1 : a * b ≤ 2305843009213693950 * 2305843009213693950 := Int.mul_le_mul h1 g1 g0 (by omega)
  unfold mul
  generalize a * b = t at *
  have q0 : 0 ≤ t / 18446744073709551616 ∧ t / 18446744073709551616 ≤ 288230376151711743 := by omega
  rw [IntWalk.u64_in (t / 18446744073709551616 * 8) (by omega), or3 _ _ (by omega) (by omega) (by omega) (by omega), and61 _ (by omega) (by omega)]
  have e1 : t / 18446744073709551616 * 8 + t % 18446744073709551616 / 2305843009213693952 = t / 2305843009213693952 := by omega
  have e2 : t % 18446744073709551616 % 2305843009213693952 = t % 2305843009213693952 := by omega
  rw [e1, e2, IntWalk.u64_in _ (by omega)]
  show _ = fold t
  rw [fold_parts t]; unfold fold; rfl
theorem mul_bits_bd (a b : Int) (h0 : 0 ≤ a) (h1 : a ≤ 2305843009213693950) (g0 : 0 ≤ b) (g1 : b ≤ 2305843009213693950) :
    0 ≤ a * b / 18446744073709551616 ∧ a * b / 18446744073709551616 ≤ 18446744073709551615 ∧ 0 ≤ a * b % 18446744073709551616 ∧ a * b % 18446744073709551616 ≤ 18446744073709551615 := by
  have t0 : 0 ≤ a * b := Int.mul_nonneg h0 g0
  have t1 : a * b ≤ 2305843009213693950 * 2305843009213693950 := Int.mul_le_mul h1 g1 g0 (by omega)
  generalize a * b = t at *
  omega
theorem u64_bd (x : Int) : 0 ≤ IntKind.u64.wrap x ∧ IntKind.u64.wrap x ≤ 18446744073709551615 := by rw [IntKind.wrap_u64]; omega

theorem pow_mod (x : Int) (k : Nat) : (x % 2305843009213693951) ^ k % 2305843009213693951 = x ^ k % 2305843009213693951 := by
  induction k with
  | zero => simp
  | succ k ih => rw [Int.pow_succ, Int.pow_succ, Int.mul_emod, ih, ← Int.mul_emod, Int.mul_emod, Int.emod_emod_of_dvd _ (Int.dvd_refl _), ← Int.mul_emod]
theorem mod_mul (x a : Int) : x % 2305843009213693951 * a % 2305843009213693951 = x * a % 2305843009213693951 := by rw [Int.mul_emod, Int.emod_emod_of_dvd _ (Int.dvd_refl _), ← Int.mul_emod]
theorem mul_mod (x a : Int) : a * (x % 2305843009213693951) % 2305843009213693951 = a * x % 2305843009213693951 := by rw [Int.mul_comm, mod_mul, Int.mul_comm]
theorem half (n : Int) (j : Nat) : n / 2 ^ (j + 1) = n / 2 ^ j / 2 := by
  rw [Int.pow_succ, Int.ediv_ediv_of_nonneg (by have := Int.pow_pos (n := (2 : Int)) (m := j) (by omega); omega)]
end Go.Proofs.YtkflggojiiebeaaGreat.Fld

namespace Go.Proofs.YtkflggojiiebeaaGreat.Fld

theorem pigeon : ∀ (n : Nat) (f : Nat → Nat), (∀ i, i < n → f i < n) → (∀ i j, i < n → j < n → f i = f j → i = j) → ∀ y, y < n → ∃ i, i < n ∧ f i = y := by
  intro n
  induction n with
  | zero => intro f _ _ y hy; omega
  | succ n ih =>
    intro f hb hi y hy
    have hgb : ∀ i, i < n → (fun i => if f i = n then f n else f i) i < n := by
      intro i h
      show (if f i = n then f n else f i) < n
      split
      · rename_i e
        have h1 := hb n (by omega)
        have : f n ≠ n := by intro e2; have := hi i n (by omega) (by omega) (by omega); omega
        omega
      · have := hb i (by omega); omega
    have hgi : ∀ i j, i < n → j < n → (fun i => if f i = n then f n else f i) i = (fun i => if f i = n then f n else f i) j → i = j := by
      intro i j h1 h2
      show (if f i = n then f n else f i) = (if f j = n then f n else f j) → i = j
      split
      · rename_i e1
        split
        · rename_i e2; intro _; exact hi i j (by omega) (by omega) (by omega)
        · intro e; have := hi n j (by omega) (by omega) e; omega
      · split
        · intro e; have := hi i n (by omega) (by omega) e; omega
        · intro e; exact hi i j (by omega) (by omega) e
    have IH := ih _ hgb hgi
    by_cases h1 : y = f n
    · exact ⟨n, by omega, h1.symm⟩
    · by_cases h2 : y = n
      · have h3 := hb n (by omega)
        obtain ⟨i, hi1, hi2⟩ := IH (f n) (by omega)
        have hi2 : (if f i = n then f n else f i) = f n := hi2
        split at hi2
        · rename_i e; exact ⟨i, by omega, by omega⟩
        · have := hi i n (by omega) (by omega) hi2; omega
      · obtain ⟨i, hi1, hi2⟩ := IH y (by omega)
        have hi2 : (if f i = n then f n else f i) = y := hi2
        split at hi2
        · omega
        · exact ⟨i, by omega, hi2⟩

def pm : Nat → Nat → Nat → Nat → Nat
  | 0, u, _, _ => u
  | f + 1, u, s, e => pm f (if e % 2 = 1 then u * s % 2305843009213693951 else u) (s * s % 2305843009213693951) (e / 2)
theorem pm_is : ∀ (f u s e : Nat), e < 2 ^ f → u < 2305843009213693951 → pm f u s e = u * s ^ e % 2305843009213693951 := by
  intro f
  induction f with
  | zero => intro u s e he hu; have : e = 0 := by omega
            subst this; unfold pm; rw [Nat.pow_zero, Nat.mul_one, Nat.mod_eq_of_lt hu]
  | succ f ih =>
    intro u s e he hu
    unfold pm
    have he2 : e / 2 < 2 ^ f := by rw [Nat.pow_succ] at he; omega
    rw [ih _ _ _ he2 (by split; exact Nat.mod_lt _ (by omega); exact hu)]
    have e1 : (s * s % 2305843009213693951) ^ (e / 2) % 2305843009213693951 = s ^ (2 * (e / 2)) % 2305843009213693951 := by
      rw [← Nat.pow_mod, Nat.pow_mul, show s ^ 2 = s * s from by rw [Nat.pow_succ, Nat.pow_one]]
    split
    · rename_i ho
      rw [Nat.mul_mod, e1, Nat.mod_mod, ← Nat.mul_mod, Nat.mul_assoc]
      congr 2
      rw [Nat.mul_comm, ← Nat.pow_succ]; congr 1; omega
    · rename_i ho
      rw [Nat.mul_mod, e1, ← Nat.mul_mod]
      congr 3; omega
theorem pow_is (e : Nat) (h : e < 2 ^ 61) : 37 ^ e % 2305843009213693951 = pm 61 1 37 e := by rw [pm_is 61 1 37 e h (by omega), Nat.one_mul]

/-- P - 1, behind a name (as an exponent a numeral of that size must not be reckoned). -/
def nn : Nat := 2305843009213693950
theorem nn_is : nn = 2305843009213693950 := rfl
theorem g_all : 37 ^ nn % 2305843009213693951 = 1 := by
  rw [pow_is _ (by decide)]; decide +kernel

def qs : List Nat := [2, 3, 5, 7, 11, 13, 31, 41, 61, 151, 331, 1321]
theorem qs_not : ∀ q, q ∈ qs → pm 61 1 37 (2305843009213693950 / q) ≠ 1 := by decide +kernel
theorem qs_dvd : ∀ q, q ∈ qs → q ∣ 2305843009213693950 ∧ 2 ≤ q := by decide +kernel
theorem qs_prime : ∀ q, q ∈ qs → ∀ x, x < 1322 → x ∣ q → x = 1 ∨ x = q := by decide +kernel
theorem qs_lt : ∀ q, q ∈ qs → q < 1322 := by decide +kernel
theorem qs_cop (m : Nat) (h : ∀ q, q ∈ qs → ¬ q ∣ m) (q : Nat) (hq : q ∈ qs) : Nat.Coprime m q := by
  have h1 : Nat.gcd m q ∣ q := Nat.gcd_dvd_right m q
  have h2 := Nat.le_of_dvd (by have := (qs_dvd q hq).2; omega) h1
  have h3 := qs_lt q hq
  rcases qs_prime q hq _ (by omega) h1 with e | e
  · exact e
  · exact absurd (e ▸ Nat.gcd_dvd_left m q) (h q hq)
theorem n_is : 2305843009213693950 = 2 * (3 * (3 * (5 * (5 * (7 * (11 * (13 * (31 * (41 * (61 * (151 * (331 * 1321)))))))))))) := by decide +kernel
theorem some_q (m : Nat) (hm : 1 < m) (hd : m ∣ 2305843009213693950) : ∃ q, q ∈ qs ∧ q ∣ m := by
  apply Classical.byContradiction
  intro hn
  have hn' : ∀ q, q ∈ qs → ¬ q ∣ m := fun q hq hd => hn ⟨q, hq, hd⟩
  have C := qs_cop m hn'
  have hc : Nat.Coprime m 2305843009213693950 := by
    rw [n_is]
    repeat (first | exact C _ (by decide) | refine Nat.Coprime.mul_right (C _ (by decide)) ?_)
  have : m = 1 := by
    have h1 := Nat.gcd_eq_left hd
    have h2 : Nat.gcd m 2305843009213693950 = 1 := hc
    omega
  omega

theorem pow_one_mul (d k : Nat) (h : 37 ^ d % 2305843009213693951 = 1) : 37 ^ (d * k) % 2305843009213693951 = 1 := by
  rw [Nat.pow_mul, Nat.pow_mod, h, Nat.one_pow]
theorem pow_shift (d r : Nat) (h : 37 ^ d % 2305843009213693951 = 1) : 37 ^ (d + r) % 2305843009213693951 = 37 ^ r % 2305843009213693951 := by
  rw [Nat.pow_add, Nat.mul_mod, h, Nat.one_mul, Nat.mod_mod]

theorem g_order : ∀ d, 0 < d → d < 2305843009213693950 → 37 ^ d % 2305843009213693951 ≠ 1 := by
  intro d
  induction d using Nat.strongRecOn with
  | _ d ih =>
    intro h0 h1 he
    have hn := nn_is
    have hr : nn % d = 0 := by
      apply Classical.byContradiction
      intro hr
      have hlt := Nat.mod_lt nn h0
      refine ih (nn % d) hlt (by omega) (by omega) ?_
      have e := Nat.div_add_mod nn d
      have h2 := pow_shift (d * (nn / d)) (nn % d) (pow_one_mul d _ he)
      rw [e] at h2
      rw [← h2]; exact g_all
    obtain ⟨m, hm⟩ := Nat.dvd_of_mod_eq_zero hr
    have hm1 : 1 < m := by
      rcases m with _ | _ | m
      · omega
      · omega
      · omega
    obtain ⟨q, hq, k, hk⟩ := some_q m hm1 ⟨d, by rw [← hn, Nat.mul_comm]; exact hm⟩
    have hq2 := (qs_dvd q hq).2
    have e : 2305843009213693950 / q = d * k := by
      rw [← hn, hm, hk, Nat.mul_left_comm, Nat.mul_div_cancel_left _ (by omega)]
    have h3 := pow_one_mul d k he
    rw [← e, pow_is _ (Nat.lt_of_le_of_lt (Nat.div_le_self _ _) (by decide))] at h3
    exact qs_not q hq h3

theorem g_ne (i : Nat) (hi : i ≤ 2305843009213693950) : 37 ^ i % 2305843009213693951 ≠ 0 := by
  intro h
  have hn := nn_is
  have e : nn = i + (nn - i) := by omega
  have h2 := g_all
  rw [e, Nat.pow_add, Nat.mul_mod, h, Nat.zero_mul] at h2
  exact absurd h2 (by decide)
theorem g_inj (i j : Nat) (hij : i < j) (hj : j < 2305843009213693950) : 37 ^ i % 2305843009213693951 ≠ 37 ^ j % 2305843009213693951 := by
  intro h
  refine g_order (j - i) (by omega) (by omega) ?_
  have hn := nn_is
  have e1 : i + (nn - i) = nn := by omega
  have e2 : j + (nn - i) = nn + (j - i) := by omega
  have h1 : 37 ^ (i + (nn - i)) % 2305843009213693951 = 37 ^ (j + (nn - i)) % 2305843009213693951 := by
    rw [Nat.pow_add, Nat.mul_mod, h, ← Nat.mul_mod, ← Nat.pow_add]
  rw [e1, e2, g_all, pow_shift _ _ g_all] at h1
  exact h1.symm
theorem g_meets (b : Nat) (h0 : 0 < b) (h1 : b < 2305843009213693951) : ∃ k, 37 ^ k % 2305843009213693951 = b := by
  have hb : ∀ i, i < 2305843009213693950 → 37 ^ i % 2305843009213693951 - 1 < 2305843009213693950 := by
    intro i hi
    have := Nat.mod_lt (37 ^ i) (by decide : 2305843009213693951 > 0)
    omega
  have hi : ∀ i j, i < 2305843009213693950 → j < 2305843009213693950 → 37 ^ i % 2305843009213693951 - 1 = 37 ^ j % 2305843009213693951 - 1 → i = j := by
    intro i j h2 h3 he
    have n1 := g_ne i (by omega)
    have n2 := g_ne j (by omega)
    have he' : 37 ^ i % 2305843009213693951 = 37 ^ j % 2305843009213693951 := by omega
    rcases Nat.lt_trichotomy i j with h | h | h
    · exact absurd he' (g_inj i j h h3)
    · exact h
    · exact absurd he'.symm (g_inj j i h h2)
  obtain ⟨k, hk, he⟩ := pigeon 2305843009213693950 (fun i => 37 ^ i % 2305843009213693951 - 1) hb hi (b - 1) (by omega)
  have n1 := g_ne k (by omega)
  have he : 37 ^ k % 2305843009213693951 - 1 = b - 1 := he
  exact ⟨k, by omega⟩
theorem fermat_nat (b : Nat) (h : b % 2305843009213693951 ≠ 0) : b ^ nn % 2305843009213693951 = 1 := by
  obtain ⟨k, hk⟩ := g_meets (b % 2305843009213693951) (by omega) (Nat.mod_lt _ (by decide))
  rw [Nat.pow_mod, ← hk, ← Nat.pow_mod, ← Nat.pow_mul, Nat.mul_comm, Nat.pow_mul, Nat.pow_mod, g_all, Nat.one_pow]

end Go.Proofs.YtkflggojiiebeaaGreat.Fld

namespace Go.Proofs.YtkflggojiiebeaaGreat.Fld
open Go.RowKit

theorem fold_any (x : Int) (w : World) (h0 : 0 ≤ x) (h1 : x ≤ 18446744073709551615) :
    Calls Tryz.prog 227 #[.int .u64 x] w fun e w' => e = .returned (.int .u64 (fold x)) ∧ w = w' := by
  go_enter Tryz.func227, Tryz.ntmps227
  go_wp2
  · go_ret
    exact ⟨ret_int (fold_hi x h0 h1 (by assumption)), rfl⟩
  · go_ret
    exact ⟨ret_int (fold_lo x h0 h1 (by assumption)), rfl⟩

end Go.Proofs.YtkflggojiiebeaaGreat.Fld

namespace Go.Proofs.YtkflggojiiebeaaGreat.Fld

theorem fermat (a : Int) (h : fold a ≠ 0) : pow a 2305843009213693950 = 1 := by
  have hf := fold_bd a
  have e := fermat_nat (fold a).toNat (by rw [Nat.mod_eq_of_lt (by omega)]; omega)
  have e2 : (((fold a).toNat : Int) ^ nn) % 2305843009213693951 = 1 := by
    have := congrArg (fun k : Nat => (k : Int)) e
    simpa using this
  rw [Int.toNat_of_nonneg hf.1] at e2
  unfold fold at e2
  rw [pow_mod] at e2
  unfold pow
  exact e2
theorem inv_is (a : Int) (h : fold a ≠ 0) : mul a (inv a) = 1 := by
  have e := fermat a h
  unfold inv mul pow at *
  rw [mul_mod]
  rw [show (2305843009213693950 : Int).toNat = (2305843009213693949 : Int).toNat + 1 from rfl, Int.pow_succ, Int.mul_comm] at e
  exact e
/-- r is s times a, but for times P. -/
def Is (a r s : Int) : Prop := (s * a) % 2305843009213693951 = r % 2305843009213693951
end Go.Proofs.YtkflggojiiebeaaGreat.Fld

namespace Go.Proofs.YtkflggojiiebeaaGreat.Fld
open Go.RowKit

theorem mul_add (a b c : Int) : mul a (add b c) = add (mul a b) (mul a c) := by
  unfold mul add; rw [mul_mod, Int.mul_add, Int.add_emod]
theorem add_assoc (a b c : Int) : add a (add b c) = add (add a b) c := by unfold add; omega
theorem mul_assoc (a b c : Int) : mul a (mul b c) = mul (mul a b) c := by
  unfold mul; rw [mul_mod, mod_mul, Int.mul_assoc]
theorem add_comm (a b : Int) : add a b = add b a := by unfold add; rw [Int.add_comm]
theorem mul_comm (a b : Int) : mul a b = mul b a := by unfold mul; rw [Int.mul_comm]
theorem mul_one (a : Int) : mul a 1 = fold a := by unfold mul fold; rw [Int.mul_one]
theorem sub_zero (a b : Int) (h : fold b = 0) : sub a b = fold a := by unfold sub fold at *; omega
theorem mul_zero (a b : Int) (h : fold b = 0) : mul a b = 0 := by
  unfold fold at h; unfold mul; rw [Int.mul_emod, h, Int.mul_zero]; rfl
theorem mul_back (a b : Int) (h : fold b ≠ 0) : mul (mul a b) (inv b) = fold a := by rw [← mul_assoc, inv_is b h, mul_one]
theorem pow_add (a m n : Int) (hm : 0 ≤ m) (hn : 0 ≤ n) : pow a (m + n) = mul (pow a m) (pow a n) := by
  unfold pow mul
  rw [Int.toNat_add hm hn, Int.pow_add, Int.mul_emod]
theorem pow_mul (a m n : Int) (hm : 0 ≤ m) (hn : 0 ≤ n) : pow a (m * n) = pow (pow a m) n := by
  unfold pow
  rw [pow_mod, Int.toNat_mul hm hn, Int.pow_mul]
theorem pow_one (a : Int) : pow a 1 = fold a := by
  unfold pow fold
  rw [show (1 : Int).toNat = 0 + 1 from rfl, Int.pow_succ, Int.pow_zero, Int.one_mul]
end Go.Proofs.YtkflggojiiebeaaGreat.Fld

namespace Go.Proofs.YtkflggojiiebeaaGreat.Fld
open Go.RowKit

theorem add_any (a b : Int) (w : World) (h0 : 0 ≤ a) (h1 : a ≤ 18446744073709551615) (g0 : 0 ≤ b) (g1 : b ≤ 18446744073709551615) :
    Calls Tryz.prog 234 #[.int .u64 a, .int .u64 b] w fun e w' => e = .returned (.int .u64 (add a b)) ∧ w = w' := by
  have fa := fold_bd a
  have fb := fold_bd b
  go_enter Tryz.func234, Tryz.ntmps234
  go_wp2_with (go_at_call 227; refine (fold_any _ _ (by omega) (by omega)).mono ?_; rintro e w' ⟨rfl, rfl⟩)
  go_ret
  exact ⟨ret_int (add_fold a b), rfl⟩

theorem mul64_any (a b : Int) (w : World) (h0 : 0 ≤ a) (h1 : a ≤ 18446744073709551615) (g0 : 0 ≤ b) (g1 : b ≤ 18446744073709551615) :
    Calls Tryz.prog 239 #[.int .u64 a, .int .u64 b] w fun e w' => e = .returned (.tuple #[.int .u64 (a * b / 18446744073709551616), .int .u64 (a * b % 18446744073709551616)]) ∧ w = w' := by
  go_enter Tryz.func239, Tryz.ntmps239
  go_wp2
  go_ret2
  exact ⟨ret_two (mul64_hi a b h0 h1 g0 g1) (mul64_lo a b), rfl⟩

theorem mul_any (a b : Int) (w : World) (h0 : 0 ≤ a) (h1 : a ≤ 18446744073709551615) (g0 : 0 ≤ b) (g1 : b ≤ 18446744073709551615) :
    Calls Tryz.prog 235 #[.int .u64 a, .int .u64 b] w fun e w' => e = .returned (.int .u64 (mul a b)) ∧ w = w' := by
  have fa := fold_bd a
  have fb := fold_bd b
  have e := mul_fold a b
  have e2 := mul_bits (fold a) (fold b) fa.1 fa.2 fb.1 fb.2
  have H : Hid (fold (IntKind.u64.wrap (bits .or .u64 (IntKind.u64.wrap (fold a * fold b / 18446744073709551616 * 8)) (fold a * fold b % 18446744073709551616 / 2305843009213693952) + bits .and .u64 (fold a * fold b % 18446744073709551616) 2305843009213693951)) = mul a b) := Lib.hid (e2.trans e)
  have fd := mul_bits_bd (fold a) (fold b) fa.1 fa.2 fb.1 fb.2
  clear e e2
  go_enter Tryz.func235, Tryz.ntmps235
  go_wp2_with (first
    | (go_at_call 227; (first | refine (fold_any _ _ (by omega) (by omega)).mono ?_ | refine (fold_any _ _ (u64_bd _).1 (u64_bd _).2).mono ?_); rintro e w' ⟨rfl, rfl⟩)
    | (go_at_call 239; refine (mul64_any _ _ _ (by omega) (by omega) (by omega) (by omega)).mono ?_; rintro e w' ⟨rfl, rfl⟩))
  go_ret
  exact ⟨ret_int H.out, rfl⟩
end Go.Proofs.YtkflggojiiebeaaGreat.Fld

namespace Go.Proofs.YtkflggojiiebeaaGreat.Ord
set_option linter.unusedVariables false
def less (l : List Int) (x : Int) : Nat := l.countP (fun y => decide (y < x))
def upto (l : List Int) (x : Int) : Nat := l.countP (fun y => decide (y ≤ x))
def Ranks (l : List Int) (k : Nat) (x : Int) : Prop := x ∈ l ∧ less l x ≤ k ∧ k < upto l x
/-- Where x is put among the first j of out. -/
def posN (out : List Int) (x : Int) : Nat → Nat
  | 0 => 0
  | j + 1 => if x < out[j]?.getD 0 then posN out x j else j + 1
def put (out : List Int) (x : Int) : List Int := out.take (posN out x out.length) ++ x :: out.drop (posN out x out.length)
def srt (l : List Int) : List Int := l.foldl put []
def kth (l : List Int) (k : Nat) : Int := (srt l)[k]?.getD 0
theorem posN_le (out : List Int) (x : Int) : ∀ j, posN out x j ≤ j
  | 0 => Nat.le_refl _
  | j + 1 => by
    unfold posN
    split
    · exact Nat.le_succ_of_le (posN_le out x j)
    · exact Nat.le_refl _
theorem posN_hi (out : List Int) (x : Int) : ∀ j i, posN out x j ≤ i → i < j → x < out[i]?.getD 0
  | 0, i, _, h => absurd h (Nat.not_lt_zero _)
  | j + 1, i, h1, h2 => by
    unfold posN at h1
    split at h1
    · rename_i hx
      rcases Nat.lt_or_ge i j with h3 | h3
      · exact posN_hi out x j i h1 h3
      · have : i = j := by omega
        subst this
        exact hx
    · omega
theorem posN_lo (out : List Int) (x : Int) : ∀ j, 0 < posN out x j → out[posN out x j - 1]?.getD 0 ≤ x
  | 0, h => absurd h (Nat.lt_irrefl _)
  | j + 1, h => by
    unfold posN at h ⊢
    split
    · rename_i hx
      rw [if_pos hx] at h
      exact posN_lo out x j h
    · rename_i hx
      simp
      omega
theorem put_perm (out : List Int) (x : Int) : (put out x).Perm (x :: out) := by
  unfold put
  refine List.perm_middle.trans ?_
  rw [List.take_append_drop]
theorem sorted_get {s : List Int} (h : s.Pairwise (· ≤ ·)) {i j : Nat} (hij : i ≤ j) (hj : j < s.length) : s[i]?.getD 0 ≤ s[j]?.getD 0 := by
  rcases Nat.lt_or_ge i j with h1 | h1
  · rw [List.getElem?_eq_getElem hj, List.getElem?_eq_getElem (by omega)]
    exact List.pairwise_iff_getElem.1 h i j (by omega) hj h1
  · have : i = j := by omega
    subst this
    exact Int.le_refl _
theorem mem_take_get {s : List Int} {k : Nat} {a : Int} (h : a ∈ s.take k) : ∃ i, i < k ∧ i < s.length ∧ s[i]?.getD 0 = a := by
  obtain ⟨i, hi, e⟩ := List.mem_iff_getElem.1 h
  simp at hi
  refine ⟨i, by omega, by omega, ?_⟩
  rw [List.getElem?_eq_getElem (by omega)]
  simpa using e
theorem mem_drop_get {s : List Int} {k : Nat} {a : Int} (h : a ∈ s.drop k) : ∃ i, k ≤ i ∧ i < s.length ∧ s[i]?.getD 0 = a := by
  obtain ⟨i, hi, e⟩ := List.mem_iff_getElem.1 h
  simp at hi
  refine ⟨k + i, by omega, by omega, ?_⟩
  rw [List.getElem?_eq_getElem (by omega)]
  simpa using e
theorem put_sorted (out : List Int) (x : Int) (h : out.Pairwise (· ≤ ·)) : (put out x).Pairwise (· ≤ ·) := by
  have hle := posN_le out x out.length
  have ha : ∀ a ∈ out.take (posN out x out.length), a ≤ x := by
    intro a hm
    obtain ⟨i, h1, h2, rfl⟩ := mem_take_get hm
    have h3 := posN_lo out x out.length (by omega)
    have h4 := sorted_get h (i := i) (j := posN out x out.length - 1) (by omega) (by omega)
    omega
  have hb : ∀ b ∈ out.drop (posN out x out.length), x ≤ b := by
    intro b hm
    obtain ⟨i, h1, h2, rfl⟩ := mem_drop_get hm
    have := posN_hi out x out.length i h1 h2
    omega
  have hp := h
  rw [← List.take_append_drop (posN out x out.length) out] at hp
  obtain ⟨p1, p2, p3⟩ := List.pairwise_append.1 hp
  unfold put
  refine List.pairwise_append.2 ⟨p1, List.pairwise_cons.2 ⟨hb, p2⟩, ?_⟩
  intro a hm b hn
  rcases List.mem_cons.1 hn with rfl | hn
  · exact ha a hm
  · exact p3 a hm b hn
theorem foldl_put_perm : ∀ (l acc : List Int), (l.foldl put acc).Perm (acc ++ l)
  | [], acc => by simp
  | x :: l, acc => by
    rw [List.foldl_cons]
    refine (foldl_put_perm l (put acc x)).trans ?_
    refine ((put_perm acc x).append_right l).trans ?_
    exact List.perm_middle.symm
theorem foldl_put_sorted : ∀ (l acc : List Int), acc.Pairwise (· ≤ ·) → (l.foldl put acc).Pairwise (· ≤ ·)
  | [], acc, h => h
  | x :: l, acc, h => foldl_put_sorted l _ (put_sorted acc x h)
theorem srt_perm (l : List Int) : (srt l).Perm l := by simpa [srt] using foldl_put_perm l []
theorem srt_sorted (l : List Int) : (srt l).Pairwise (· ≤ ·) := foldl_put_sorted l [] List.Pairwise.nil
theorem srt_len (l : List Int) : (srt l).length = l.length := (srt_perm l).length_eq
theorem upto_le (l : List Int) (x : Int) : upto l x ≤ l.length := List.countP_le_length
theorem ranks_one {l : List Int} {k : Nat} {x y : Int} (h : Ranks l k x) (g : Ranks l k y) : x = y := by
  have key : ∀ {x y : Int}, Ranks l k x → Ranks l k y → ¬ x < y := by
    intro x y h g hlt
    have e : upto l x ≤ less l y := List.countP_mono_left (fun z _ hz => by simp at hz ⊢; omega)
    have := h.2.2
    have := g.2.1
    omega
  have h1 := key h g
  have h2 := key g h
  omega
theorem ranks_perm {l m : List Int} (hp : l.Perm m) {k : Nat} {x : Int} (h : Ranks l k x) : Ranks m k x := by
  refine ⟨hp.mem_iff.1 h.1, ?_, ?_⟩
  · have := h.2.1
    unfold less at this ⊢
    rwa [← hp.countP_eq]
  · have := h.2.2
    unfold upto at this ⊢
    rwa [← hp.countP_eq]
theorem ranks_sorted {s : List Int} (h : s.Pairwise (· ≤ ·)) {k : Nat} (hk : k < s.length) : Ranks s k (s[k]?.getD 0) := by
  refine ⟨?_, ?_, ?_⟩
  · rw [List.getElem?_eq_getElem hk]
    exact List.getElem_mem hk
  · have e : less s (s[k]?.getD 0) = less (s.take k) (s[k]?.getD 0) + less (s.drop k) (s[k]?.getD 0) := by
      unfold less
      rw [← List.countP_append, List.take_append_drop]
    have z : less (s.drop k) (s[k]?.getD 0) = 0 := by
      unfold less
      rw [List.countP_eq_zero]
      intro a ha
      obtain ⟨i, h1, h2, rfl⟩ := mem_drop_get ha
      have := sorted_get h h1 h2
      simp
      omega
    have b : less (s.take k) (s[k]?.getD 0) ≤ (s.take k).length := List.countP_le_length
    rw [List.length_take] at b
    omega
  · have e : upto s (s[k]?.getD 0) = upto (s.take (k + 1)) (s[k]?.getD 0) + upto (s.drop (k + 1)) (s[k]?.getD 0) := by
      unfold upto
      rw [← List.countP_append, List.take_append_drop]
    have z : upto (s.take (k + 1)) (s[k]?.getD 0) = (s.take (k + 1)).length := by
      unfold upto
      rw [List.countP_eq_length]
      intro a ha
      obtain ⟨i, h1, h2, rfl⟩ := mem_take_get ha
      have := sorted_get h (i := i) (j := k) (by omega) hk
      simp
      omega
    rw [List.length_take] at z
    omega
theorem ranks_kth (l : List Int) (k : Nat) (hk : k < l.length) : Ranks l k (kth l k) :=
  ranks_perm (srt_perm l) (ranks_sorted (srt_sorted l) (by rw [srt_len]; exact hk))
theorem kth_eq {l : List Int} {k : Nat} {x : Int} (h : Ranks l k x) : x = kth l k :=
  ranks_one h (ranks_kth l k (Nat.lt_of_lt_of_le h.2.2 (upto_le l x)))
theorem kth_perm {l m : List Int} (hp : l.Perm m) (k : Nat) : kth l k = kth m k := by
  rcases Nat.lt_or_ge k l.length with h | h
  · exact kth_eq (ranks_perm hp (ranks_kth l k h))
  · unfold kth
    rw [List.getElem?_eq_none (by rw [srt_len]; exact h), List.getElem?_eq_none (by rw [srt_len, ← hp.length_eq]; exact h)]
theorem kth_mem (l : List Int) (k : Nat) (hk : k < l.length) : kth l k ∈ l := (ranks_kth l k hk).1
theorem least_eq (l : List Int) (x : Int) (h1 : x ∈ l) (h2 : ∀ y ∈ l, x ≤ y) : x = kth l 0 := by
  refine kth_eq ⟨h1, ?_, ?_⟩
  · have e : less l x = 0 := by
      unfold less
      rw [List.countP_eq_zero]
      intro a ha
      have := h2 a ha
      simp
      omega
    omega
  · unfold upto
    exact List.countP_pos_iff.2 ⟨x, h1, by simp⟩
/-- What is told of the place k (0 where there is no such place), and whether there is one. -/
def kv (l : List Int) (k : Int) : Int := if 0 ≤ k ∧ k < l.length then kth l k.toNat else 0
def kb (l : List Int) (k : Int) : Bool := decide (0 ≤ k ∧ k < l.length)
theorem kv_yes {l : List Int} {k : Int} (h : 0 ≤ k) (g : k < l.length) : kv l k = kth l k.toNat ∧ kb l k = true :=
  ⟨if_pos ⟨h, g⟩, decide_eq_true ⟨h, g⟩⟩
theorem kv_no {l : List Int} {k : Int} (h : k < 0 ∨ l.length ≤ k) : kv l k = 0 ∧ kb l k = false :=
  ⟨if_neg (by omega), decide_eq_false (by omega)⟩
theorem kv_in (l : List Int) (k : Int) (lo hi : Int) (h0 : lo ≤ 0) (h1 : 0 ≤ hi) (h : ∀ v ∈ l, lo ≤ v ∧ v ≤ hi) : lo ≤ kv l k ∧ kv l k ≤ hi := by
  unfold kv
  split
  · exact h _ (kth_mem l _ (by omega))
  · exact ⟨h0, h1⟩
theorem take_next (l : List Int) (k : Nat) (v : Int) (h : l[k]? = some v) : l.take (k + 1) = l.take k ++ [v] := by
  obtain ⟨hk, e⟩ := List.getElem?_eq_some_iff.1 h
  rw [List.take_succ_eq_append_getElem hk, e]
end Go.Proofs.YtkflggojiiebeaaGreat.Ord

namespace Go.Proofs.YtkflggojiiebeaaGreat.Ord
open Go Go.RowKit Lw
set_option linter.unusedVariables false
/-- The numbers zs lie in block g from i on, and may be written. -/
def Mid (w : World) (g i : Nat) (zs : List Int) : Prop := ∃ (cur : Array Value) (e : TypeId), w.heap[g]? = some (.cells cur e (0, 0)) ∧ ∀ j v, zs[j]? = some v → cur[i + j]? = some (.int .i64 v)
theorem add_at (g i j : Nat) : (⟨g, i, none⟩ : Addr).add j = ⟨g, i + j, none⟩ := by unfold Addr.add; split <;> simp_all
theorem Mid.cell {w : World} {g i : Nat} {zs : List Int} (h : Mid w g i zs) {j : Nat} {v : Int} (hv : zs[j]? = some v) : w.cell? ⟨g, i + j, none⟩ = some (.int .i64 v) := by
  obtain ⟨cur, e, h1, h2⟩ := h
  simp [World.cell?, h1, h2 j v hv]
theorem Mid.frozen {w : World} {g i : Nat} {zs : List Int} (h : Mid w g i zs) (o : Nat) : w.frozen? ⟨g, o, none⟩ = false := by
  obtain ⟨cur, e, h1, h2⟩ := h
  simp [World.frozen?, h1]
theorem Mid.lt {w : World} {g i : Nat} {zs : List Int} (h : Mid w g i zs) : g < w.heap.size := by
  obtain ⟨cur, e, h1, h2⟩ := h
  rcases Nat.lt_or_ge g w.heap.size with h3 | h3
  · exact h3
  · rw [Array.getElem?_eq_none h3] at h1; cases h1
theorem Mid.rd {w : World} {g i : Nat} {zs : List Int} (h : Mid w g i zs) : Rd .i64 w (some ⟨g, i, none⟩) zs := fun j v hv => ⟨_, rfl, by rw [add_at]; exact h.cell hv⟩
theorem Mid.keep {w w' : World} {g i : Nat} {zs : List Int} {F : Nat → Prop} (h : Mid w g i zs) (hk : Kept F w w') (hf : ¬ F g) : Mid w' g i zs := by
  obtain ⟨cur, e, h1, h2⟩ := h
  exact ⟨cur, e, hk.heap h1 hf, h2⟩
theorem Mid.up {w w' : World} {g i : Nat} {zs : List Int} (h : Mid w g i zs) (hb : Below w.heap.size w w') : Mid w' g i zs := h.keep (F := fun _ => False) (Kept.of_below hb) (fun h => h)
theorem Mid.take {w : World} {g i : Nat} {zs : List Int} (h : Mid w g i zs) (m : Nat) : Mid w g i (zs.take m) := by
  obtain ⟨cur, e, h1, h2⟩ := h
  refine ⟨cur, e, h1, fun j v hv => h2 j v ?_⟩
  rw [List.getElem?_take] at hv
  split at hv
  · exact hv
  · cases hv
theorem Mid.drop {w : World} {g i : Nat} {zs : List Int} (h : Mid w g i zs) (m : Nat) : Mid w g (i + m) (zs.drop m) := by
  obtain ⟨cur, e, h1, h2⟩ := h
  refine ⟨cur, e, h1, fun j v hv => ?_⟩
  rw [List.getElem?_drop] at hv
  rw [Nat.add_assoc]
  exact h2 _ v hv
theorem Mid.set {w : World} {g i : Nat} {zs : List Int} (h : Mid w g i zs) (j : Nat) (x : Int) : Mid (w.setCell ⟨g, i + j, none⟩ (.int .i64 x)) g i (zs.set j x) := by
  obtain ⟨cur, e, h1, h2⟩ := h
  refine ⟨cur.setIfInBounds (i + j) (.int .i64 x), e, by simp [World.setCell, Array.getElem?_modify, h1], fun q v hv => ?_⟩
  rw [List.getElem?_set] at hv
  split at hv
  · rename_i hq
    split at hv
    · rename_i hlt
      subst hq
      injection hv with hv
      subst hv
      have h3 := h2 j zs[j] (List.getElem?_eq_getElem hlt)
      have h4 : i + j < cur.size := by
        rcases Nat.lt_or_ge (i + j) cur.size with h5 | h5
        · exact h5
        · rw [Array.getElem?_eq_none h5] at h3; cases h3
      rw [Array.getElem?_setIfInBounds_self_of_lt h4]
    · cases hv
  · rename_i hq
    rw [Array.getElem?_setIfInBounds_ne (by omega)]
    exact h2 q v hv
theorem mid_own {w : World} {base : Nat} {e : TypeId} {A : Addr} {n cap : Nat} {zs : List Int} (h : w.ownsRow base e 1 (.slice (some A) n cap) n (zs.map (Value.int .i64))) : ∃ g, A = ⟨g, 0, none⟩ ∧ base ≤ g ∧ Mid w g 0 zs := by
  have h0 := h
  obtain ⟨h1, h2⟩ := h
  rcases h2 with ⟨h3, _⟩ | ⟨g, cap2, cur, h3, hbase, hh, hl, hm, hx, hy⟩
  · cases h3
  · injection h3 with h3 h4 h5
    injection h3 with h3
    subst h3
    refine ⟨g, rfl, hbase, cur, e, hh, fun j v hv => ?_⟩
    have h4 := h0.cells (g := g) rfl j (.int .i64 v) (by rw [List.getElem?_map, hv]; rfl)
    rw [add_at] at h4
    simpa [World.cell?, hh] using h4
theorem nat_half : ∀ x y : Nat, x + y = 2 * (x &&& y) + (x ^^^ y) := by
  intro x
  induction x using Nat.strongRecOn with
  | ind x ih =>
    intro y
    by_cases h : x = 0
    · subst h; simp
    · have h1 := ih (x / 2) (by omega) (y / 2)
      have a1 : (x &&& y) / 2 = x / 2 &&& y / 2 := by have e := Nat.shiftRight_and_distrib (a := x) (b := y) (i := 1); simpa [Nat.shiftRight_eq_div_pow] using e
      have a2 : (x ^^^ y) / 2 = x / 2 ^^^ y / 2 := by have e := Nat.shiftRight_xor_distrib (a := x) (b := y) (i := 1); simpa [Nat.shiftRight_eq_div_pow] using e
      have b1 : (x &&& y) % 2 = (x % 2) * (y % 2) := by
        have e1 := Nat.and_mod_two_pow (a := x) (b := y) (n := 1)
        simp only [Nat.pow_one] at e1
        rw [e1]
        rcases Nat.mod_two_eq_zero_or_one x with p | p <;> rcases Nat.mod_two_eq_zero_or_one y with q | q <;> rw [p, q] <;> decide
      have b2 : (x ^^^ y) % 2 = (x % 2 + y % 2) % 2 := by
        have e1 := Nat.xor_mod_two_pow (a := x) (b := y) (n := 1)
        simp only [Nat.pow_one] at e1
        rw [e1]
        rcases Nat.mod_two_eq_zero_or_one x with p | p <;> rcases Nat.mod_two_eq_zero_or_one y with q | q <;> rw [p, q] <;> decide
      rw [← a1, ← a2] at h1
      rcases Nat.mod_two_eq_zero_or_one x with p | p <;> rcases Nat.mod_two_eq_zero_or_one y with q | q <;> rw [p, q] at b1 b2 <;> omega
theorem xor_i64 (a b : Int) : bits .xor .i64 a b = (BitVec.ofInt 64 a ^^^ BitVec.ofInt 64 b).toInt := wrap_bv _
theorem bv_half (X Y : BitVec 64) : X.toInt + Y.toInt = 2 * (X &&& Y).toInt + (X ^^^ Y).toInt := by
  have h := nat_half X.toNat Y.toNat
  have p := BitVec.msb_and (x := X) (y := Y)
  have q := BitVec.msb_xor (x := X) (y := Y)
  rw [BitVec.toInt_eq_msb_cond, BitVec.toInt_eq_msb_cond, BitVec.toInt_eq_msb_cond, BitVec.toInt_eq_msb_cond, p, q, BitVec.toNat_and, BitVec.toNat_xor]
  have hx := X.isLt
  have hy := Y.isLt
  cases X.msb <;> cases Y.msb <;> simp <;> omega
theorem half_eq (a b : Int) (a0 : -9223372036854775808 ≤ a) (a1 : a ≤ 9223372036854775807) (b0 : -9223372036854775808 ≤ b) (b1 : b ≤ 9223372036854775807) : bits .and .i64 a b + bits .xor .i64 a b / 2 = (a + b) / 2 := by
  have h := bv_half (BitVec.ofInt 64 a) (BitVec.ofInt 64 b)
  rw [bv_of a a0 a1, bv_of b b0 b1] at h
  rw [and_i64, xor_i64]
  omega
theorem bv_bd (X : BitVec 64) : -9223372036854775808 ≤ X.toInt ∧ X.toInt ≤ 9223372036854775807 := by
  have h := X.isLt
  rw [BitVec.toInt_eq_toNat_cond]
  split <;> omega
theorem and_bd (a b : Int) : -9223372036854775808 ≤ bits .and .i64 a b ∧ bits .and .i64 a b ≤ 9223372036854775807 := by
  rw [and_i64]
  exact bv_bd _
theorem xor_bd (a b : Int) : -9223372036854775808 ≤ bits .xor .i64 a b ∧ bits .xor .i64 a b ≤ 9223372036854775807 := by
  rw [xor_i64]
  exact bv_bd _
/-- ys is zs in another order; the first c are not beyond b, and those from there to k are. -/
structure Parts (zs : List Int) (b : Int) (ys : List Int) (c k : Nat) : Prop where
  perm : ys.Perm zs
  ck : c ≤ k
  kl : k ≤ ys.length
  lo : ∀ j v, ys[j]? = some v → j < c → v ≤ b
  hi : ∀ j v, ys[j]? = some v → c ≤ j → j < k → b < v
theorem Parts.start (zs : List Int) (b : Int) : Parts zs b zs 0 0 := ⟨.refl _, Nat.le_refl _, Nat.zero_le _, fun _ _ _ h => by omega, fun _ _ _ _ h => by omega⟩
theorem Parts.past {zs : List Int} {b : Int} {ys : List Int} {c k : Nat} (h : Parts zs b ys c k) {x : Int} (hx : ys[k]? = some x) (hb : b < x) : Parts zs b ys c (k + 1) := by
  have hl := (List.getElem?_eq_some_iff.1 hx).1
  refine ⟨h.perm, by have := h.ck; omega, hl, h.lo, fun j v hv h1 h2 => ?_⟩
  by_cases h3 : j = k
  · subst h3; rw [hx] at hv; injection hv with hv; omega
  · exact h.hi j v hv h1 (by omega)
theorem Parts.swap {zs : List Int} {b : Int} {ys : List Int} {c k : Nat} (h : Parts zs b ys c k) {x y : Int} (hx : ys[k]? = some x) (hy : ys[c]? = some y) (hb : x ≤ b) : Parts zs b ((ys.set k y).set c x) (c + 1) (k + 1) := by
  obtain ⟨hl, ex⟩ := List.getElem?_eq_some_iff.1 hx
  obtain ⟨hc, ey⟩ := List.getElem?_eq_some_iff.1 hy
  have hck := h.ck
  refine ⟨?_, by omega, by simp; omega, ?_, ?_⟩
  · have hp := @List.set_set_perm _ ys k c hl hc
    rw [ex, ey] at hp
    exact hp.trans h.perm
  · intro j v hv hj
    rw [List.getElem?_set] at hv
    split at hv
    · rw [if_pos (by simpa using hc)] at hv
      injection hv with hv; omega
    · rw [List.getElem?_set, if_neg (by omega)] at hv
      exact h.lo j v hv (by omega)
  · intro j v hv h1 h2
    rw [List.getElem?_set, if_neg (by omega), List.getElem?_set] at hv
    by_cases h3 : k = j
    · rw [if_pos h3, if_pos hl] at hv
      injection hv with hv
      subst hv
      exact h.hi c y hy (Nat.le_refl _) (by omega)
    · rw [if_neg h3] at hv
      exact h.hi j v hv (by omega) (by omega)
theorem Parts.upto {zs : List Int} {b : Int} {ys : List Int} {c : Nat} (h : Parts zs b ys c ys.length) : c ≤ zs.length ∧ (∀ v ∈ ys.take c, v ≤ b) ∧ (∀ v ∈ ys.drop c, b < v) := by
  refine ⟨by rw [← h.perm.length_eq]; exact h.ck, fun v hv => ?_, fun v hv => ?_⟩
  · obtain ⟨j, h1, h2, rfl⟩ := mem_take_get hv
    exact h.lo j _ (by rw [List.getElem?_eq_getElem h2]; rfl) h1
  · obtain ⟨j, h1, h2, rfl⟩ := mem_drop_get hv
    exact h.hi j _ (by rw [List.getElem?_eq_getElem h2]; rfl) h1 h2
theorem less_zero {l : List Int} {x : Int} (h : ∀ v ∈ l, x ≤ v) : less l x = 0 := by
  unfold less; rw [List.countP_eq_zero]; intro v hv; have := h v hv; simp; omega
theorem less_all {l : List Int} {x : Int} (h : ∀ v ∈ l, v < x) : less l x = l.length := by
  unfold less; rw [List.countP_eq_length]; intro v hv; have := h v hv; simp; omega
theorem upto_all {l : List Int} {x : Int} (h : ∀ v ∈ l, v ≤ x) : Ord.upto l x = l.length := by
  unfold Ord.upto; rw [List.countP_eq_length]; intro v hv; have := h v hv; simp; omega
theorem less_app (l m : List Int) (x : Int) : less (l ++ m) x = less l x + less m x := List.countP_append ..
theorem upto_app (l m : List Int) (x : Int) : Ord.upto (l ++ m) x = Ord.upto l x + Ord.upto m x := List.countP_append ..
/-- The k-th of all is the k-th of those within. -/
theorem kth_within {ys : List Int} {b : Int} {c k : Nat} (h1 : ∀ v ∈ ys.take c, v ≤ b) (h2 : ∀ v ∈ ys.drop c, b < v) (hc : c ≤ ys.length) (hk : k < c) : kth (ys.take c) k = kth ys k := by
  have hr := ranks_kth (ys.take c) k (by rw [List.length_take]; omega)
  obtain ⟨m1, m2, m3⟩ := hr
  have hx := h1 _ m1
  refine kth_eq ⟨List.mem_of_mem_take m1, ?_, ?_⟩
  · have e := less_app (ys.take c) (ys.drop c) (kth (ys.take c) k)
    rw [List.take_append_drop, less_zero (l := ys.drop c) (fun v hv => by have := h2 v hv; omega)] at e
    omega
  · have e := upto_app (ys.take c) (ys.drop c) (kth (ys.take c) k)
    rw [List.take_append_drop] at e
    omega
theorem kth_beyond {ys : List Int} {b : Int} {c k : Nat} (h1 : ∀ v ∈ ys.take c, v ≤ b) (h2 : ∀ v ∈ ys.drop c, b < v) (hc : c ≤ ys.length) (hk : c ≤ k) (hl : k < ys.length) : kth (ys.drop c) (k - c) = kth ys k := by
  have hr := ranks_kth (ys.drop c) (k - c) (by rw [List.length_drop]; omega)
  obtain ⟨m1, m2, m3⟩ := hr
  have hx := h2 _ m1
  have hlen : (ys.take c).length = c := by rw [List.length_take]; omega
  refine kth_eq ⟨List.mem_of_mem_drop m1, ?_, ?_⟩
  · have e := less_app (ys.take c) (ys.drop c) (kth (ys.drop c) (k - c))
    rw [List.take_append_drop, less_all (l := ys.take c) (fun v hv => by have := h1 v hv; omega)] at e
    omega
  · have e := upto_app (ys.take c) (ys.drop c) (kth (ys.drop c) (k - c))
    rw [List.take_append_drop, upto_all (l := ys.take c) (fun v hv => by have := h1 v hv; omega)] at e
    omega
end Go.Proofs.YtkflggojiiebeaaGreat.Ord

namespace Go.Proofs.YtkflggojiiebeaaGreat.Ord
open Go Go.RowKit Lw
set_option linter.unusedVariables false
set_option linter.unusedSimpArgs false
theorem ret_ok {a b : Int} {p q : Bool} (h : a = b) (g : p = q) : Ending.returned (.tuple #[.int .i64 a, .bool p]) = .returned (.tuple #[.int .i64 b, .bool q]) := by rw [h, g]
theorem oi64_info : (Tryz.prog.info? 2).map (fun i => (i.zero, i.size, i.bytes)) = some (some (.int .i64 0), 1, 8) := by kernel_rfl
theorem oi64s_u : Tryz.prog.underlying 54 = some (.slice 2) := by kernel_rfl
theorem halfway_any (a b : Int) (w : World) (a0 : -9223372036854775808 ≤ a) (a1 : a ≤ 9223372036854775807) (b0 : -9223372036854775808 ≤ b) (b1 : b ≤ 9223372036854775807) :
    Calls Tryz.prog 243 #[.int .i64 a, .int .i64 b] w fun e w' => e = .returned (.int .i64 ((a + b) / 2)) ∧ w' = w := by
  have e := half_eq a b a0 a1 b0 b1
  have e2 := and_bd a b
  have e3 := xor_bd a b
  go_enter Tryz.func243, Tryz.ntmps243
  go_wp2
  go_ret
  exact ⟨rfl, rfl⟩
/-- What ends tells. -/
def Ends (zs : List Int) (lo hi : Int) : Prop := lo ∈ zs ∧ hi ∈ zs ∧ ∀ v ∈ zs, lo ≤ v ∧ v ≤ hi
set_option maxRecDepth 100000 in
theorem ends_any (ad : Addr) (n cap : Nat) (zs : List Int) (w : World) (hn : n ≤ cap) (hcap : cap ≤ maxLen) (hr : Rd .i64 w (some ad) zs) (hl : zs.length = n) (h1 : 0 < n) (hs : n ≤ 1000) (hz : In64 zs) :
    Calls Tryz.prog 244 #[.slice (some ad) n cap] w fun e w' => ∃ lo hi, e = .returned (.tuple #[.int .i64 lo, .int .i64 hi]) ∧ Ends zs lo hi ∧ Below w.heap.size w w' := by
  have HR := Lib.hid hr
  have HZ := Lib.hid hz
  have HL := Lib.hid hl
  unfold maxLen at hcap
  have h1' : 0 < zs.length := by omega
  have c0 := HR.out.at (j := 0) (v := zs[0]) (List.getElem?_eq_getElem h1')
  have ca0 : ad.add 0 = ad := by unfold Addr.add; simp
  obtain ⟨f, hf⟩ : ∃ f, f = zs[0] := ⟨_, rfl⟩
  rw [← hf] at c0
  have hfm : f ∈ zs := by rw [hf]; exact List.getElem_mem h1'
  have fb := HZ.out f hfm
  have HF := Lib.hid hfm
  have h0n : (0 : Int) < n := by omega
  rw [ca0] at c0
  clear hf hfm hl hr hz h1'
  go_enter Tryz.func244, Tryz.ntmps244
  go_wp2
  go_quiet (fail)
  go_wp2
  go_loopw [2, 3, 14] (fun a b i wr => ∃ (k d : Nat) (x y : Int), k ≤ n ∧ i = .int .i64 k ∧ a = .int .i64 x ∧ b = .int .i64 y ∧ x ∈ zs ∧ y ∈ zs ∧ (∀ v ∈ zs.take k, x ≤ v ∧ v ≤ y) ∧ wr = w.drewN d) (fun _ _ i _ => n - (intOf i).toNat)
  case atStart => exact ⟨0, _, f, f, Nat.zero_le _, rfl, rfl, rfl, HF.out, HF.out, fun v hv => by simp at hv, rfl⟩
  case round =>
    obtain ⟨k, d, x, y, hk, rfl, rfl, rfl, hx, hy, hall, rfl⟩ := hrel
    have xb := HZ.out x hx
    have yb := HZ.out y hy
    have HX := Lib.hid hx
    have HY := Lib.hid hy
    have HA := Lib.hid hall
    clear hx hy hall
    by_cases hlt : k < n
    · have hkl : k < zs.length := by have := HL.out; omega
      obtain ⟨v, hv⟩ : ∃ v, zs[k]? = some v := ⟨_, List.getElem?_eq_getElem hkl⟩
      have hc := HR.out.at hv
      have hvm := List.mem_of_getElem? hv
      have vb := HZ.out v hvm
      have HV := Lib.hid hvm
      have HN := Lib.hid (take_next zs k v hv)
      clear hv hvm
      by_cases h2 : v < x
      · by_cases h3 : y < v
        · go_wp2
          go_roundw
          case rel => exact ⟨k + 1, _, v, v, by omega, by go_num, rfl, rfl, HV.out, HV.out, fun u hu => by rw [HN.out] at hu; rcases List.mem_append.1 hu with h4 | h4; (have := HA.out u h4; omega); (simp at h4; omega), rfl⟩
          case measure => simp [intOf]; omega
        · go_wp2
          go_roundw
          case rel => exact ⟨k + 1, _, v, y, by omega, by go_num, rfl, rfl, HV.out, HY.out, fun u hu => by rw [HN.out] at hu; rcases List.mem_append.1 hu with h4 | h4; (have := HA.out u h4; omega); (simp at h4; omega), rfl⟩
          case measure => simp [intOf]; omega
      · by_cases h3 : y < v
        · go_wp2
          go_roundw
          case rel => exact ⟨k + 1, _, x, v, by omega, by go_num, rfl, rfl, HX.out, HV.out, fun u hu => by rw [HN.out] at hu; rcases List.mem_append.1 hu with h4 | h4; (have := HA.out u h4; omega); (simp at h4; omega), rfl⟩
          case measure => simp [intOf]; omega
        · go_wp2
          go_roundw
          case rel => exact ⟨k + 1, _, x, y, by omega, by go_num, rfl, rfl, HX.out, HY.out, fun u hu => by rw [HN.out] at hu; rcases List.mem_append.1 hu with h4 | h4; (have := HA.out u h4; omega); (simp at h4; omega), rfl⟩
          case measure => simp [intOf]; omega
    · have e : k = n := by omega
      subst e
      have E : Hid (Ends zs x y) := Lib.hid ⟨HX.out, HY.out, fun v hv => HA.out v (by rw [List.take_of_length_le (by have := HL.out; omega)]; exact hv)⟩
      go_wp2
      go_ret2
      exact ⟨x, y, rfl, E.out, below_drewN (Below.refl _ _) _⟩
theorem addr_letter (g i : Nat) : ∃ ad : Addr, (⟨g, i, none⟩ : Addr) = ad := ⟨_, rfl⟩
set_option maxRecDepth 100000 in
theorem part_any (g i n cap : Nat) (zs : List Int) (b : Int) (w : World) (hn : n ≤ cap) (hcap : cap ≤ maxLen) (hm : Mid w g i zs) (hl : zs.length = n) (h1 : 0 < n) (hs : n ≤ 1000) (hz : In64 zs) (b0 : -9223372036854775808 ≤ b) (b1 : b ≤ 9223372036854775807) :
    Calls Tryz.prog 242 #[.slice (some ⟨g, i, none⟩) n cap, .int .i64 b] w fun e w' => ∃ (c : Nat) (ys : List Int) (B : Option Addr), e = .returned (.tuple #[.slice (some ⟨g, i, none⟩) c cap, .slice B (n - c) (cap - c)]) ∧ Parts zs b ys c n ∧ (c < n → B = some ⟨g, i + c, none⟩) ∧ Mid w' g i ys ∧ Kept (fun q => q = g) w w' := by
  have HM := Lib.hid hm
  have HZ := Lib.hid hz
  have HL := Lib.hid hl
  unfold maxLen at hcap
  clear hm hz hl
  obtain ⟨ad, had⟩ := addr_letter g i
  have HAD := Lib.hid had
  rw [had]
  clear had
  go_enter Tryz.func242, Tryz.ntmps242
  go_wp2
  go_loopw [6, 11] (fun ct ix wr => ∃ (c k : Nat) (ys : List Int), k ≤ n ∧ ct = .int .i64 c ∧ ix = .int .i64 k ∧ Parts zs b ys c k ∧ Mid wr g i ys ∧ Kept (fun q => q = g) w wr) (fun _ ix _ => n - (intOf ix).toNat)
  case atStart => exact ⟨0, 0, zs, Nat.zero_le _, rfl, rfl, Parts.start _ _, HM.out, Kept.refl _ _⟩
  case round =>
    obtain ⟨c, k, ys, hk, rfl, rfl, hp, hmid, hkept⟩ := hrel
    have hck := hp.ck
    have hyl : ys.length = n := by rw [hp.perm.length_eq]; exact HL.out
    have HP := Lib.hid hp
    have HMI := Lib.hid hmid
    have HK := Lib.hid hkept
    have HYL := Lib.hid hyl
    have HYZ : Hid (In64 ys) := Lib.hid (fun v hv => HZ.out v (hp.perm.mem_iff.1 hv))
    clear hp hmid hkept hyl
    by_cases hlt : k < n
    · have hkl : k < ys.length := by have := HYL.out; omega
      have hcl : c < ys.length := by have := HYL.out; omega
      obtain ⟨x, hx⟩ : ∃ x, ys[k]? = some x := ⟨_, List.getElem?_eq_getElem hkl⟩
      obtain ⟨y, hy⟩ : ∃ y, ys[c]? = some y := ⟨_, List.getElem?_eq_getElem hcl⟩
      have xb := HYZ.out.at hx
      have yb := HYZ.out.at hy
      have cx := HMI.out.rd.at hx
      have cy := HMI.out.rd.at hy
      have fx := HMI.out.frozen (i + k)
      have fy := HMI.out.frozen (i + c)
      have m1 := HMI.out.set k y
      have m2 := m1.set c x
      have cy1 := m1.rd.at (j := c) (v := (if k = c then y else y)) (by rw [List.getElem?_set]; by_cases e : k = c <;> simp [e, hy]; omega)
      have fy1 := m1.frozen (i + c)
      have k1 : Kept (fun q => q = g) w ((wr.setCell ⟨g, i + k, none⟩ (.int .i64 y)).setCell ⟨g, i + c, none⟩ (.int .i64 x)) := (HK.out.set (.inl rfl) _ _).set (.inl rfl) _ _
      simp only [← add_at, HAD.out] at cx cy fx fy m1 m2 cy1 fy1 k1
      have M2 := Lib.hid m2
      have K1 := Lib.hid k1
      have PS := fun h => HP.out.swap hx hy h
      have PP := fun h => HP.out.past hx h
      have HPS := Lib.hid PS
      have HPP := Lib.hid PP
      simp only [ite_self] at cy1
      clear m1 m2 k1 PS PP hx hy
      by_cases h2 : x ≤ b
      · go_wp2
        go_roundw
        case rel => exact ⟨c + 1, k + 1, _, by omega, by go_num, by go_num, HPS.out h2, M2.out, K1.out⟩
        case measure => simp [intOf]; omega
      · go_wp2
        go_roundw
        case rel => exact ⟨c, k + 1, ys, by omega, rfl, by go_num, HPP.out (by omega), HMI.out, HK.out⟩
        case measure => simp [intOf]; omega
    · have e : k = n := by omega
      subst e
      have hcap0 : ¬ cap = 0 := by omega
      have ca0 : ad.add 0 = ad := by unfold Addr.add; simp
      have AC : Hid (some (ad.add c) = some (⟨g, i + c, none⟩ : Addr)) := Lib.hid (by rw [← HAD.out, add_at])
      by_cases hcc : cap = c
      · have e2 : k = c := by omega
        subst e2
        subst hcc
        go_wp2
        go_quiet (fail)
        go_wp2
        go_ret2
        exact ⟨cap, ys, some ad, by rw [Nat.sub_self]; rfl, HP.out, fun h => by omega, HMI.out.keep (Kept.of_below (F := fun _ => False) (below_drewN (Below.refl _ _) _)) (fun h => h), HK.out.drewN _⟩
      · go_wp2
        go_quiet (fail)
        go_wp2
        go_ret2
        exact ⟨c, ys, _, rfl, HP.out, fun h => AC.out, HMI.out.keep (Kept.of_below (F := fun _ => False) (below_drewN (Below.refl _ _) _)) (fun h => h), HK.out.drewN _⟩
/-- One number, the k-th of all: what Kth holds on to. -/
def Rest (w wr : World) (R : Int) (k : Int) (g i n cap : Nat) (zs : List Int) (K : Nat) : Prop :=
  k = K ∧ K < n ∧ zs.length = n ∧ n ≤ cap ∧ cap ≤ maxLen ∧ n ≤ 1000 ∧ In64 zs ∧ kth zs K = R ∧ Mid wr g i zs ∧ w.heap.size ≤ g ∧ Below w.heap.size w wr
theorem in64_perm {ys zs : List Int} (h : ys.Perm zs) (hz : In64 zs) : In64 ys := fun v hv => hz v (h.mem_iff.1 hv)
theorem kept_below {w wr w' : World} {g : Nat} (h : Kept (fun q => q = g) wr w') (hb : Below w.heap.size w wr) (hg : w.heap.size ≤ g) : Below w.heap.size w w' :=
  h.low hb hb.size (fun q hq => by subst hq; exact hg)
/-- All are within: all are the same. -/
theorem rest_same {zs ys : List Int} {lo hi : Int} {n K : Nat} (he : Ends zs lo hi) (hp : Parts zs ((lo + hi) / 2) ys n n) (hl : zs.length = n) (hK : K < n) : ∀ v, ys[0]? = some v → v = kth zs K := by
  intro v hv
  have hyl : ys.length = n := by rw [hp.perm.length_eq]; exact hl
  have h1 : hi ∈ ys := hp.perm.mem_iff.2 he.2.1
  obtain ⟨j, hj, e⟩ := List.mem_iff_getElem.1 h1
  have h2 := hp.lo j hi (by rw [List.getElem?_eq_getElem hj, e]) (by omega)
  have h3 := (he.2.2 hi he.2.1).1
  have h4 := he.2.2 v (hp.perm.mem_iff.1 (List.mem_of_getElem? hv))
  have h5 := he.2.2 _ (kth_mem zs K (by omega))
  omega
theorem rest_within {w wr w' : World} {R k lo hi : Int} {g i n cap K c : Nat} {zs ys : List Int} (h : Rest w wr R k g i n cap zs K) (hp : Parts zs ((lo + hi) / 2) ys c n) (hc : K < c) (hm : Mid w' g i ys) (hk : Kept (fun q => q = g) wr w') :
    Rest w w' R k g i c cap (ys.take c) K := by
  obtain ⟨h1, h2, h3, h4, h5, h6, h7, h8, h9, h10, h11⟩ := h
  have hyl : ys.length = n := by rw [hp.perm.length_eq]; exact h3
  rw [← hyl] at hp
  obtain ⟨p1, p2, p3⟩ := hp.upto
  have hck := hp.ck
  refine ⟨h1, hc, by rw [List.length_take]; omega, by omega, h5, by omega, in64_take (in64_perm hp.perm h7) c, ?_, hm.take c, h10, kept_below hk h11 h10⟩
  rw [kth_within p2 p3 (by omega) hc, ← h8]
  exact kth_perm hp.perm K
theorem rest_beyond {w wr w' : World} {R k lo hi : Int} {g i n cap K c : Nat} {zs ys : List Int} (h : Rest w wr R k g i n cap zs K) (hp : Parts zs ((lo + hi) / 2) ys c n) (hc : c ≤ K) (hm : Mid w' g i ys) (hk : Kept (fun q => q = g) wr w') :
    Rest w w' R (k - c) g (i + c) (n - c) (cap - c) (ys.drop c) (K - c) := by
  obtain ⟨h1, h2, h3, h4, h5, h6, h7, h8, h9, h10, h11⟩ := h
  have hyl : ys.length = n := by rw [hp.perm.length_eq]; exact h3
  rw [← hyl] at hp
  obtain ⟨p1, p2, p3⟩ := hp.upto
  have hck := hp.ck
  refine ⟨by omega, by omega, by rw [List.length_drop]; omega, by omega, by unfold maxLen at h5 ⊢; omega, by omega, in64_drop (in64_perm hp.perm h7) c, ?_, hm.drop c, h10, kept_below hk h11 h10⟩
  rw [kth_beyond p2 p3 (by omega) hc (by omega), ← h8]
  exact kth_perm hp.perm K
/-- Some are within. -/
theorem rest_some {zs ys : List Int} {lo hi : Int} {c n : Nat} (he : Ends zs lo hi) (hp : Parts zs ((lo + hi) / 2) ys c n) (hl : zs.length = n) : 0 < c := by
  rcases Nat.eq_zero_or_pos c with rfl | h
  · have hyl : ys.length = n := by rw [hp.perm.length_eq]; exact hl
    have h1 : lo ∈ ys := hp.perm.mem_iff.2 he.1
    obtain ⟨j, hj, e⟩ := List.mem_iff_getElem.1 h1
    have h2 := hp.hi j lo (by rw [List.getElem?_eq_getElem hj, e]) (by omega) (by omega)
    have h3 := (he.2.2 hi he.2.1).1
    omega
  · exact h
theorem eql_nil {P : Program} (w : World) (t e : TypeId) (a : Option Addr) (l c : Nat) (h : P.underlying t = some (.slice e)) : (binOp .eql t (.slice a l c) (.slice none 0 0)).run P w = .ok (.bool a.isNone) w := by
  simp only [binOp]
  simp [run_equal_slice_nil w t e a l c h]
theorem clone_any (A : Option Addr) (n cap : Nat) (zs : List Int) (w : World) (hA : A = none → n = 0 ∧ cap = 0) (hn : n ≤ cap) (hcap : cap ≤ maxLen) (hr : Rd .i64 w A zs) (hl : zs.length = n) (h1 : 0 < n) (hs : n ≤ 1000) :
    Calls Tryz.prog 241 #[.slice A n cap] w fun e w' => ∃ (g cap2 : Nat), e = .returned (.slice (some ⟨g, 0, none⟩) n cap2) ∧ Mid w' g 0 zs ∧ w.heap.size ≤ g ∧ n ≤ cap2 ∧ cap2 ≤ maxLen ∧ Below w.heap.size w w' := by
  obtain ⟨i0, hi, hz0, hz1, hz2⟩ := info_parts oi64_info
  obtain ⟨ad, rfl⟩ := hr.some_of (by omega)
  have HR := Lib.hid hr
  have HL := Lib.hid hl
  unfold maxLen at hcap
  have hq : ∀ w', (binOp .eql 54 (.slice (some ad) n cap) (.slice none 0 0)).run Tryz.prog w' = .ok (.bool false) w' := fun w' => eql_nil w' _ _ (some ad) n cap oi64s_u
  clear hr hA hl
  go_enter Tryz.func241, Tryz.ntmps241
  go_wp2_with (at_builtin; refine app_any .i64 rfl _ _ 54 rfl w.heap.size 2 i0 8 oi64s_u hi hz0 hz1 hz2 (.slice (some ⟨w.heap.size, 0, none⟩) 0 0) 0 [] rfl (own_empty w _ _ _ (Nat.le_refl _)) (fun h => by cases h) (some ad) n cap zs rfl (by simp) HL.out (HR.out.up (Lw.below_alloc (Below.refl _ _) _)) (by unfold maxLen; omega) (by omega) (by simp) ?_; intro A6 cap6 w6 own6 grow6 rd6 c6 d6; have hb6 : Below w.heap.size w w6 := app_below grow6 (Nat.le_refl _); (simp only [Nat.zero_add, List.nil_append] at own6 c6); (simp only [Nat.zero_add]); clear grow6 rd6)
  go_ret
  obtain ⟨g, rfl, hg, hm⟩ := mid_own own6
  exact ⟨g, cap6, rfl, hm, hg, c6, d6, hb6⟩
def slen : Value → Nat
  | .slice _ n _ => n
  | _ => 0
theorem in64_ends {zs : List Int} {lo hi : Int} (hz : In64 zs) (he : Ends zs lo hi) : -9223372036854775808 ≤ lo ∧ lo ≤ 9223372036854775807 ∧ -9223372036854775808 ≤ hi ∧ hi ≤ 9223372036854775807 :=
  ⟨(hz _ he.1).1, (hz _ he.1).2, (hz _ he.2.1).1, (hz _ he.2.1).2⟩
set_option maxRecDepth 100000 in
set_option maxHeartbeats 4000000 in
theorem kth_any (A : Option Addr) (n cap : Nat) (zs : List Int) (k : Int) (w : World) (hA : A = none → n = 0 ∧ cap = 0) (hn : n ≤ cap) (hcap : cap ≤ maxLen) (hr : Rd .i64 w A zs) (hl : zs.length = n) (hs : n ≤ 1000) (hz : In64 zs) (k0 : -9223372036854775808 ≤ k) (k1 : k ≤ 9223372036854775807) :
    Calls Tryz.prog 240 #[.slice A n cap, .int .i64 k] w fun e w' => e = .returned (.tuple #[.int .i64 (kv zs (k)), .bool (kb zs (k))]) ∧ Below w.heap.size w w' := by
  have HR := Lib.hid hr
  have HZ := Lib.hid hz
  have HL := Lib.hid hl
  have HA := Lib.hid hA
  unfold maxLen at hcap
  by_cases h0 : 0 ≤ k ∧ k < n
  · obtain ⟨g0, g1⟩ := h0
    obtain ⟨K, rfl⟩ : ∃ K : Nat, k = K := ⟨k.toNat, by omega⟩
    have e := kv_yes (l := zs) (k := (K : Int)) g0 (by omega)
    have e1 : kv zs K = kth zs K := e.1
    have E1 := Lib.hid e1
    have E2 := Lib.hid e.2
    have hKn : K < n := by omega
    have h1 : 0 < n := by omega
    clear e e1 hr hz hl hA g0 k0
    go_enter Tryz.func240, Tryz.ntmps240
    go_wp2
    go_step3
    go_wp2_with (go_at_call 241; (with_reducible refine (clone_any A n cap zs _ HA.out hn (by unfold maxLen; omega) HR.out HL.out h1 hs).mono ?_); rintro e w2 ⟨g, cap2, rfl, hm2, hg2, hc2, hd2, hb2⟩)
    have HR2 : Hid (Rest w w2 (kth zs K) K g 0 n cap2 zs K) := Lib.hid ⟨rfl, hKn, HL.out, hc2, hd2, hs, HZ.out, rfl, hm2, hg2, hb2⟩
    clear hm2 hb2 hc2 hd2
    go_step3
    go_wp2
    go_loopw [1, 6] (fun kk r wr => ∃ (i m cp : Nat) (ys : List Int) (J : Nat), kk = .int .i64 J ∧ r = .slice (some ⟨g, i, none⟩) m cp ∧ Rest w wr (kth zs K) J g i m cp ys J) (fun _ r _ => slen r)
    case atStart => exact ⟨0, n, cap2, zs, K, rfl, rfl, HR2.out⟩
    case round =>
      obtain ⟨i, m, cp, ys, J, rfl, rfl, hrest⟩ := hrel
      have HRS := Lib.hid hrest
      obtain ⟨x1, x2, x3, x4, x5, x6, x7, x8, x9, x10, x11⟩ := hrest
      have HX3 := Lib.hid x3
      have HX7 := Lib.hid x7
      have HX9 := Lib.hid x9
      clear x1 x3 x7 x8 x9 x11
      unfold maxLen at x5
      have hm0 : 0 < m := by omega
      go_wp2_with (first
        | (go_at_call 244; (with_reducible refine (ends_any ⟨g, i, none⟩ m cp ys _ x4 (by unfold maxLen; omega) HX9.out.rd HX3.out hm0 x6 HX7.out).mono ?_); rintro e w3 ⟨lo, hi, rfl, he, hb3⟩; have HE := Lib.hid he; have bd := in64_ends HX7.out he; obtain ⟨d1, d2, d3, d4⟩ := bd; clear he)
        | (go_at_call 243; (with_reducible refine (halfway_any lo hi _ d1 d2 d3 d4).mono ?_); rintro e w4 ⟨rfl, rfl⟩)
        | (go_at_call 242; (with_reducible refine (part_any g i m cp ys ((lo + hi) / 2) _ x4 (by unfold maxLen; omega) (HX9.out.up hb3) HX3.out hm0 x6 HX7.out (by omega) (by omega)).mono ?_); rintro e w5 ⟨c, us, B, rfl, hp5, hB5, hm5, hk5⟩; have hul : us.length = m := (by rw [hp5.perm.length_eq]; exact HX3.out); have hck := hp5.ck; obtain ⟨u0, hu0⟩ : ∃ u, us[0]? = some u := ⟨_, List.getElem?_eq_getElem (by omega)⟩; have hc0 : w5.cell? ⟨g, i, none⟩ = some (.int .i64 u0) := hm5.cell hu0; have HP5 := Lib.hid hp5; have HM5 := Lib.hid hm5; have HK5 := Lib.hid (((Kept.of_below (F := fun q => q = g) hb3)).trans hk5 (fun _ _ h => h)); have HB5 := Lib.hid hB5; have HU0 := Lib.hid hu0; clear hp5 hm5 hk5 hB5 hu0 hb3))
      · rename_i hcm
        have hcm2 : c = m := by
          have := of_decide_eq_true hcm
          omega
        subst hcm2
        have hs5 := rest_same HE.out HP5.out HX3.out x2 u0 HU0.out
        have hb5 := kept_below HK5.out HRS.out.2.2.2.2.2.2.2.2.2.2 x10
        have hq5 : kth ys J = kth zs K := HRS.out.2.2.2.2.2.2.2.1
        simp only [Exit.noGoto]
        go_ret2
        exact ⟨ret_ok (by rw [hs5, hq5]; exact E1.out.symm) E2.out.symm, hb5⟩
      · rename_i hcm hJc
        have hcm2 : c < m := by
          have := of_decide_eq_false hcm
          omega
        exact ⟨⟨i, c, cp, us.take c, J, rfl, rfl, rest_within HRS.out HP5.out hJc HM5.out HK5.out⟩, hcm2⟩
      · rename_i hcm hJc
        have hcm2 : c < m := by
          have := of_decide_eq_false hcm
          omega
        have hc0' := rest_some HE.out HP5.out HX3.out
        refine ⟨⟨i + c, m - c, cp - c, us.drop c, J - c, ?_, by rw [HB5.out hcm2], ?_⟩, ?_⟩
        · congr 1; omega
        · have h := rest_beyond HRS.out HP5.out (by omega) HM5.out HK5.out
          have e : ((J : Int) - c) = ((J - c : Nat) : Int) := by omega
          rw [e] at h
          exact h
        · show m - c < m
          omega
  · have e := kv_no (l := zs) (k := k) (by omega)
    have E1 := Lib.hid e.1
    have E2 := Lib.hid e.2
    clear e hr hz hl hA
    by_cases h1 : k < 0
    · clear h0
      go_enter Tryz.func240, Tryz.ntmps240
      go_wp2
      go_step3
      go_wp2
      simp only [Exit.noGoto]
      go_ret2
      exact ⟨ret_ok E1.out.symm E2.out.symm, Below.refl _ _⟩
    · have h2 : (n : Int) ≤ k := by omega
      clear h0
      go_enter Tryz.func240, Tryz.ntmps240
      go_wp2
      go_step3
      go_wp2
      simp only [Exit.noGoto]
      go_ret2
      exact ⟨ret_ok E1.out.symm E2.out.symm, Below.refl _ _⟩
set_option maxRecDepth 100000 in
theorem min_any (A : Option Addr) (n cap : Nat) (zs : List Int) (w : World) (hA : A = none → n = 0 ∧ cap = 0) (hn : n ≤ cap) (hcap : cap ≤ maxLen) (hr : Rd .i64 w A zs) (hl : zs.length = n) (hs : n ≤ 1000) (hz : In64 zs) :
    Calls Tryz.prog 236 #[.slice A n cap] w fun e w' => e = .returned (.tuple #[.int .i64 (kv zs (0)), .bool (kb zs (0))]) ∧ Below w.heap.size w w' := by
  have HR := Lib.hid hr
  have HZ := Lib.hid hz
  have HL := Lib.hid hl
  have HA := Lib.hid hA
  unfold maxLen at hcap
  clear hr hz hl hA
  go_enter Tryz.func236, Tryz.ntmps236
  go_wp2_with (go_at_call 240; (with_reducible refine (kth_any A n cap zs 0 _ HA.out hn (by unfold maxLen; omega) HR.out HL.out hs HZ.out (by omega) (by omega)).mono ?_); rintro e w2 ⟨rfl, hb2⟩)
  go_ret2
  exact ⟨rfl, hb2⟩
theorem med_at (zs : List Int) (n : Nat) (hl : zs.length = n) : kv zs (Int.tdiv ((n : Int) - 1) 2) = kv zs (((zs.length : Int) - 1) / 2) ∧ kb zs (Int.tdiv ((n : Int) - 1) 2) = kb zs (((zs.length : Int) - 1) / 2) := by
  subst hl
  by_cases h : zs.length = 0
  · have e1 := kv_no (l := zs) (k := Int.tdiv ((zs.length : Int) - 1) 2) (.inr (by rw [h]; decide))
    have e2 := kv_no (l := zs) (k := ((zs.length : Int) - 1) / 2) (.inl (by omega))
    exact ⟨e1.1.trans e2.1.symm, e1.2.trans e2.2.symm⟩
  · rw [Int.tdiv_eq_ediv_of_nonneg (by omega)]
    exact ⟨rfl, rfl⟩
set_option maxRecDepth 100000 in
theorem median_any (A : Option Addr) (n cap : Nat) (zs : List Int) (w : World) (hA : A = none → n = 0 ∧ cap = 0) (hn : n ≤ cap) (hcap : cap ≤ maxLen) (hr : Rd .i64 w A zs) (hl : zs.length = n) (hs : n ≤ 1000) (hz : In64 zs) :
    Calls Tryz.prog 237 #[.slice A n cap] w fun e w' => e = .returned (.tuple #[.int .i64 (kv zs (((zs.length : Int) - 1) / 2)), .bool (kb zs (((zs.length : Int) - 1) / 2))]) ∧ Below w.heap.size w w' := by
  have HR := Lib.hid hr
  have HZ := Lib.hid hz
  have HL := Lib.hid hl
  have HA := Lib.hid hA
  have HM := Lib.hid (med_at zs n hl)
  unfold maxLen at hcap
  have t0 : -1 ≤ Int.tdiv ((n : Int) - 1) 2 ∧ Int.tdiv ((n : Int) - 1) 2 ≤ 1000 := by
    by_cases h : n = 0
    · subst h; decide
    · rw [Int.tdiv_eq_ediv_of_nonneg (by omega)]; omega
  clear hr hz hl hA
  go_enter Tryz.func237, Tryz.ntmps237
  go_wp2_with (go_at_call 240; (with_reducible refine (kth_any A n cap zs (Int.tdiv ((n : Int) - 1) 2) _ HA.out hn (by unfold maxLen; omega) HR.out HL.out hs HZ.out (by omega) (by omega)).mono ?_); rintro e w2 ⟨rfl, hb2⟩)
  go_ret2
  exact ⟨ret_ok HM.out.1 HM.out.2, hb2⟩
end Go.Proofs.YtkflggojiiebeaaGreat.Ord

