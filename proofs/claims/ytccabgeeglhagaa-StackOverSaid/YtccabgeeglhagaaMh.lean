/- Texts that the statements of this seat lean on, put together: ExaShr, ExaSumM, LevCode, ColOwn, Many, UpT, SkRef, SkDoc, SkDocC, LevDef, LevRef, LevLoad, Lvl, Lrow, Cel, StkDef, AppV, StkCut, StkHas, StkThing, StkIt, StkFst, StkPt. -/
import Derived.Test.YtccabgeeglhagaaMa
import Derived.Test.YtccabgeeglhagaaMc
import Derived.Test.YtccabgeeglhagaaMd
import Derived.Test.YtccabgeeglhagaaMe
import Derived.Test.YtccabgeeglhagaaMf
import Derived.Test.YtccabgeeglhagaaMg
import Derived.Deep.LoopGhost
import Derived.Deep.RegionHeld3
import Derived.Deep.DeepCutAuto
import Derived.Deep.QuietTactic
import Derived.BigQuiet
import Derived.WalkSpells
import Derived.RangeFuncNested
import Derived.RangeFuncBound
import Derived.RangeFuncCalls
import Derived.RangeFuncLeaves
import Derived.Laws.EntriesVeiled
import Derived.Shelf.Abstract
import Derived.Shelf.RegionOpen
import Derived.WalkKit
import Derived.OwnWalkIn
import Derived.TacticsInMore
import Derived.LoopNIn
import Derived.LoopIn
import Derived.RangeFuncBox
/- What several laws of layer 12 share. Printed by wip/gen/exalaws.py. -/
namespace Go.Proofs.Ytccabgeeglhagaa.Exa
open Go Go.RowKit Lw Grd Lin Con Shp Sk
set_option linter.unusedVariables false
set_option linter.unusedSimpArgs false
theorem lst_int64_c : Try.prog.cellsOf 2 = 1 := by kernel_rfl
set_option maxRecDepth 100000 in
theorem open_list_int64 {H : Type} {enc : TypeId × Value → H} {W : World} {v : Value} {d : DataW H} {p : List MemPlace} {base : Nat} (hv : Value.okWide Try.prog W .any base 34 v)
    (h : DataW.Trod enc Try.prog W 0 (fun _ => true) true 34 v d p) :
    ∃ (A : Option Addr) (n cap : Nat) (zs : List Int), v = .slice A n cap ∧ (A = none → n = 0 ∧ cap = 0) ∧ n ≤ cap ∧ cap ≤ maxLen ∧ Rd .i64 W A zs ∧ zs.length = n ∧ (∀ v ∈ zs, -9223372036854775808 ≤ v ∧ v ≤ 9223372036854775807) := by
  obtain ⟨a0, len, cap, rfl⟩ := Go.WideShapes.okWide_slice Try.underlying34 hv
  obtain ⟨fuel, hf⟩ := h
  rcases Go.ChangeShapes.open_ints Try.underlying34 Try.underlying2 lst_int64_c hf with ⟨hcs, _⟩ | ⟨a, len', cap', zs, hcs, _, hl, hm, hz, _, hcell, hwz⟩
  · simp [Value.cells] at hcs
    obtain ⟨rfl, rfl, rfl⟩ := hcs
    exact ⟨none, 0, 0, [], rfl, fun _ => ⟨rfl, rfl⟩, Nat.le_refl _, by simp, rd_nil _ _ _, rfl, fun v h => by simp at h⟩
  · simp [Value.cells] at hcs
    obtain ⟨rfl, rfl, rfl⟩ := hcs
    have hz2 : zs.length = cap := by simpa using hz
    refine ⟨some a, len, cap, zs.take len, rfl, (fun h => by cases h), hl, hm, ?_, by simp; omega, ?_⟩
    · intro k v hk
      rw [List.getElem?_take] at hk
      split at hk
      · refine ⟨a, rfl, ?_⟩
        rw [hcell k (by omega)]
        simp [hk]
      · cases hk
    · intro v hv
      exact Lw.wf_i64 (hwz v (List.mem_of_mem_take hv))
theorem arr2_int_e : Try.prog.cellsOf 3 = 1 := by kernel_rfl
theorem arr2_int_k : Try.prog.underlying 3 = some (.int .i64) := by kernel_rfl
theorem arr2_int_l {α : Type} (T : Array α) (h : T.size = 2) : ∃ x0 x1 : α, T = #[x0, x1] := by
  obtain ⟨l⟩ := T
  match l, h with
  | [x0, x1], _ => exact ⟨x0, x1, rfl⟩
theorem Have.perm {w0 w : World} {ts us : List Thing} (hp : ts.Perm us) : Have w0 w ts → Have w0 w us := by
  induction hp with
  | nil => exact fun h => h
  | cons t hp ih =>
    intro h
    exact ⟨h.1, h.2.1, fun u hu => h.2.2.1 u (hp.mem_iff.2 hu), ih h.2.2.2⟩
  | swap a b l =>
    intro h
    obtain ⟨h1, h2, h3, h4, h5, h6, h7⟩ := h
    exact ⟨h4, h5, fun u hu => by
      rcases List.mem_cons.1 hu with rfl | hu
      · exact fun k hk hk2 => h3 a (by simp) k hk2 hk
      · exact h6 u hu, h1, h2, fun u hu => h3 u (by simp [hu]), h7⟩
  | trans _ _ ih1 ih2 => exact fun h => ih2 (ih1 h)
abbrev Opk := Int × Int × Int
/-- A row of ops, handed in. -/
structure OpkV (w : World) (A : Option Addr) (n c : Nat) (qs : List Opk) : Prop where
  nil : A = none → n = 0 ∧ c = 0
  nc : n ≤ c
  cm : c ≤ maxLen
  len : qs.length = n
  each : ∀ (i : Nat) q, qs[i]? = some q → ∃ a, A = some a ∧ w.cell? (a.add (i * 3)) = some (.int .i64 (q.1)) ∧ w.cell? (a.add (i * 3 + 1)) = some (.int .u64 (q.2.1)) ∧ w.cell? (a.add (i * 3 + 2)) = some (.int .i64 (q.2.2)) ∧ (-9223372036854775808 ≤ (q.1) ∧ (q.1) ≤ 9223372036854775807) ∧ (0 ≤ (q.2.1) ∧ (q.2.1) ≤ 18446744073709551615) ∧ (-9223372036854775808 ≤ (q.2.2) ∧ (q.2.2) ≤ 9223372036854775807)
theorem OpkV.at {w : World} {A : Option Addr} {n c : Nat} {qs : List Opk} (h : OpkV w A n c qs) {i : Nat} {q : Opk} (hq : qs[i]? = some q) : ∃ (a : Addr) (g o : Nat), A = some a ∧ a.add (i * 3) = ⟨g, o, none⟩ ∧ w.cell? ⟨g, o, none⟩ = some (.int .i64 q.1) ∧ w.cell? ⟨g, o + 1, none⟩ = some (.int .u64 q.2.1) ∧ w.cell? ⟨g, o + 2, none⟩ = some (.int .i64 q.2.2) ∧ (0 ≤ q.2.1 ∧ q.2.1 ≤ 18446744073709551615) ∧ (-9223372036854775808 ≤ q.2.2 ∧ q.2.2 ≤ 9223372036854775807) := by
  obtain ⟨a, e, h1, h2, h3, _, h5, h6⟩ := h.each i q hq
  rw [← add_add'] at h2 h3
  have hs : (a.add (i * 3)).spot = none := by
    unfold World.cell? at h1
    split at h1
    · split at h1
      · cases h1
      · rename_i hs; simpa using hs
    · cases h1
  obtain ⟨ad, had⟩ : ∃ ad, a.add (i * 3) = ad := ⟨_, rfl⟩
  rw [had] at h1 h2 h3 hs
  obtain ⟨g, o, sp⟩ := ad
  simp only at hs
  subst hs
  rw [Ord.add_at] at h2 h3
  exact ⟨a, g, o, e, had, h1, h2, h3, h5, h6⟩
theorem three_boxs (w : World) (e1 e2 e3 : TypeId) (v1 v2 v3 : Array Value) : Have w (((w.alloc (.cells v1 e1)).alloc (.cells v2 e2)).alloc (.cells v3 e3)) [boxT (w.heap.size + 1 + 1) e3 v3, boxT (w.heap.size + 1) e2 v2, boxT w.heap.size e1 v1] := by
  refine (two_boxs w e1 e2 v1 v2).push (boxT (w.heap.size + 1 + 1) e3 v3) (Lw.below_alloc (Below.refl _ _) _) ?_ (fun k hk => ?_)
  · have h := heap_alloc_new ((w.alloc (.cells v1 e1)).alloc (.cells v2 e2)) (.cells v3 e3)
    rw [World.size_alloc, World.size_alloc] at h
    exact h
  · rw [World.size_alloc, World.size_alloc]
    exact Nat.le_of_eq hk.symm
theorem zero_num (n : Nat) (k : Int) : num (List.replicate n 0) k = 0 := by
  unfold num
  rw [List.getElem?_replicate]
  split <;> rfl
theorem one_up {md : Int} {n : Nat} {d : Int} (hn : 1 ≤ n) (d0 : 0 ≤ d) (d1 : d ≤ 100) : exCode md (List.replicate n 0) 0 d = 0 ∧ exRes md (List.replicate n 0) 0 d = (List.replicate n 0).set 0 d := by
  have h := ex_yes (md := md) (L := List.replicate n 0) (k := 0) (d := d) (by rw [List.length_replicate]; omega) (fun h => by omega) (by rw [zero_num]; exact (Wid.fit64_yes (by omega) (by omega)).1)
  rw [zero_num, Int.zero_add] at h
  exact h
theorem one_rows (a b : Int) (m : Nat) : rowS 1 ((List.replicate (m + 1) 0).set 0 a) ((List.replicate (m + 1) 0).set 0 b) = (a + b) :: List.replicate m 0 := by
  unfold rowS
  rw [List.replicate_succ, List.set_cons_zero, List.set_cons_zero, List.zipWith_cons_cons]
  simp
theorem one_join {n : Nat} {a b : Int} (hn : 1 ≤ n) (a0 : 0 ≤ a) (a1 : a ≤ 100) (b0 : 0 ≤ b) (b1 : b ≤ 100) : exJ 1 ((List.replicate n 0).set 0 a) ((List.replicate n 0).set 0 b) = 0 ∧ num (exM 1 ((List.replicate n 0).set 0 a) ((List.replicate n 0).set 0 b)) 0 = a + b ∧ (exM 1 ((List.replicate n 0).set 0 a) ((List.replicate n 0).set 0 b)).length = n := by
  obtain ⟨m, rfl⟩ : ∃ m, n = m + 1 := ⟨n - 1, by omega⟩
  have hf : ((a + b) :: List.replicate m 0).all Wid.fit64 = true := by
    rw [List.all_eq_true]
    intro z hz
    rcases List.mem_cons.1 hz with rfl | hz
    · exact (Wid.fit64_yes (by omega) (by omega)).1
    · rw [(List.mem_replicate.1 hz).2]
      decide
  unfold exJ exM
  rw [one_rows, if_pos hf, if_pos hf]
  exact ⟨rfl, rfl, by simp⟩
theorem mid_ap4 {w0 w : World} {g : Nat} {zs : List Int} {t1 t2 t3 : Thing} {q : Addr} {G : Nat → Prop} {c : Cfg} {l : Int} {M : List Int} {ts : List Thing} (h : Have w0 w (midT g zs :: t1 :: t2 :: t3 :: exT q G c l M :: ts)) : ¬ G g := h.2.2.1 (exT q G c l M) (by simp) g rfl
def ptV (L : List Int) (k : Int) : Int := if (L.length : Int) ≤ k then 0 else num L k
def ptC (L : List Int) (k : Int) : Int := if (L.length : Int) ≤ k then 2 else 0
theorem epoint_any (p : Addr) (F : Nat → Prop) (c : Cfg) (l : Int) (L : List Int) (k : Int) (w : World) (h : EX w p F c l L) (k0 : 0 ≤ k) (k1 : k ≤ 18446744073709551615) :
    Calls Try.prog 123 #[.pointer (some p), .int .u64 k] w fun e w' => e = .returned (.tuple #[.int .i64 (ptV L k), .int .i64 (ptC L k)]) ∧ Below w.heap.size w w' := by
  unfold ptV ptC
  by_cases hk : (L.length : Int) ≤ k
  · rw [if_pos hk, if_pos hk]
    exact epoint_no p F c l L k w h k0 k1 hk
  · rw [if_neg hk, if_neg hk]
    exact epoint_yes p F c l L k w h k0 k1 (by omega)
theorem plays_perm (q r o p c x : Thing) : [q, r, o, p, c, x].Perm [r, p, q, o, c, x] :=
  ((List.perm_append_comm (l₁ := [q]) (l₂ := [r])).append_right [o, p, c, x]).trans (List.Perm.cons r ((List.perm_append_comm (l₁ := [q, o]) (l₂ := [p])).append_right [c, x]))
end Go.Proofs.Ytccabgeeglhagaa.Exa
/- What each key has, update by update, in numbers. For layer 12. Printed by wip/gen/exalaws.py. -/
namespace Go.Proofs.Ytccabgeeglhagaa.Exa
open Go Go.RowKit Lw Grd Lin Con Shp Sk
set_option linter.unusedVariables false
def UpsE (md : Int) (K : Nat) (us : Ups) : Prop := ∀ u ∈ us, 0 ≤ u.1 ∧ u.1 < K ∧ -1099511627776 ≤ u.2 ∧ u.2 ≤ 1099511627776 ∧ (md = 2 → 0 ≤ u.2)
theorem UpsE.rev {md : Int} {K : Nat} {us : Ups} (h : UpsE md K us) : UpsE md K us.reverse := fun u hu => h u (List.mem_reverse.1 hu)
theorem sums_next {md : Int} {K : Nat} {us : Ups} {i : Nat} {u : Int × Int} (hE : UpsE md K us) (hl : us.length ≤ 60) (hu : us[i]? = some u) :
    exCode md (sums K (us.take i)) u.1 u.2 = 0 ∧ exRes md (sums K (us.take i)) u.1 u.2 = sums K (us.take (i + 1)) ∧ (sums K (us.take i)).set u.1.toNat (num (sums K (us.take i)) u.1 + u.2) = sums K (us.take (i + 1)) ∧ -9223372036854775808 ≤ num (sums K (us.take i)) u.1 + u.2 ∧ num (sums K (us.take i)) u.1 + u.2 ≤ 9223372036854775807 := by
  obtain ⟨h1, e1⟩ := List.getElem?_eq_some_iff.1 hu
  have ht : us.take (i + 1) = us.take i ++ [u] := by rw [List.take_succ_eq_append_getElem h1, e1]
  have hm : u ∈ us := List.mem_of_getElem? hu
  have h0 := hE u hm
  have hb : ∀ v ∈ us.take i ++ [u], -1099511627776 ≤ v.2 ∧ v.2 ≤ 1099511627776 := by
    intro v hv
    rcases List.mem_append.1 hv with h | h
    · have := hE v (List.mem_of_mem_take h)
      exact ⟨this.2.2.1, this.2.2.2.1⟩
    · rw [List.mem_singleton] at h
      subst h
      exact ⟨h0.2.2.1, h0.2.2.2.1⟩
  have hln : (us.take i).length ≤ 60 := by rw [List.length_take]; omega
  have hs := sums_step (md := md) h0.1 h0.2.1 hln hb h0.2.2.2.2
  have hc := sums_snoc (us := us.take i) h0.1 h0.2.1
  have hz := ex_zero hs.1
  have hf := in64_fit hz.2
  rw [ht]
  exact ⟨hs.1, hs.2, hc.symm, hf.1, hf.2⟩
theorem cut_UpsE {c : Cfg} {l : Int} {K : Nat} (hk : keys c l = K) (h1 : 1 ≤ K) (qs : Ups) : UpsE c.md K (qs.map (cutU c l)) := by
  intro u hu
  obtain ⟨v, _, rfl⟩ := List.mem_map.1 hu
  have h := cutU_ok (c := c) (l := l) (by omega) v
  rw [hk] at h
  exact ⟨h.1, h.2.1, h.2.2.1, h.2.2.2.1, h.2.2.2.2⟩
theorem cut_get {c : Cfg} {l : Int} {qs : Ups} {N i : Nat} {q : Int × Int} (hi : i < N) (hq : qs[i]? = some q) : ((qs.take N).map (cutU c l))[i]? = some (cutU c l q) := by
  rw [List.getElem?_map, List.getElem?_take, if_pos hi, hq]
  rfl
theorem rev_get {us : Ups} {N i : Nat} {u : Int × Int} (hl : us.length = N) (hi : i < N) (hq : us[N - 1 - i]? = some u) : us.reverse[i]? = some u := by
  rw [List.getElem?_reverse (by omega), hl]
  exact hq
theorem cut_parts (c : Cfg) (l K : Int) (hk : keys c l = K) (h1 : 1 ≤ K) (q : Int × Int) (k0 : 0 ≤ q.1) (k1 : q.1 ≤ 18446744073709551615) : Int.tmod q.1 K = (cutU c l q).1 ∧ 0 ≤ (cutU c l q).1 ∧ (cutU c l q).1 < K ∧ (c.md ≠ 2 → Int.tmod q.2 1099511627776 = (cutU c l q).2) ∧ (c.md = 2 → (cutU c l q).2 = if Int.tmod q.2 1099511627776 < -Int.tmod q.2 1099511627776 then -Int.tmod q.2 1099511627776 else Int.tmod q.2 1099511627776) := by
  have h := cutU_ok (c := c) (l := l) (by omega) q
  rw [hk] at h
  refine ⟨?_, h.1, h.2.1, fun hm => ?_, fun hm => ?_⟩
  · rw [Int.tmod_eq_emod_of_nonneg k0]
    unfold cutU
    rw [hk]
  · unfold cutU dv
    simp [hm]
  · unfold cutU dv
    simp only [hm, decide_true, if_pos]
    split <;> split <;> first | rfl | omega
end Go.Proofs.Ytccabgeeglhagaa.Exa
/- The walks of package level (the code's): a level is an interface value that holds a pointer to an array or to a sketch. Printed by wip/gen/levcode.py. -/
namespace Go.Proofs.Ytccabgeeglhagaa.Lev
open Go Go.RowKit Lw Grd Lin Con Shp Sk Exa
set_option linter.unusedVariables false
set_option linter.unusedSimpArgs false
theorem ta_AA (w : World) (p : Addr) : (Instr.typeAssert (.iface 97 (.pointer (some p))) 56 97 true).run Try.prog w = .ok (.tuple #[.pointer (some p), .bool true]) w := by kernel_rfl
theorem ta_AS (w : World) (p : Addr) : (Instr.typeAssert (.iface 97 (.pointer (some p))) 56 96 true).run Try.prog w = .ok (.tuple #[.pointer none, .bool false]) w := by kernel_rfl
theorem ta_SS (w : World) (p : Addr) : (Instr.typeAssert (.iface 96 (.pointer (some p))) 56 96 true).run Try.prog w = .ok (.tuple #[.pointer (some p), .bool true]) w := by kernel_rfl
theorem ta_SA (w : World) (p : Addr) : (Instr.typeAssert (.iface 96 (.pointer (some p))) 56 97 true).run Try.prog w = .ok (.tuple #[.pointer none, .bool false]) w := by kernel_rfl
theorem ta_S1 (w : World) (p : Addr) : (Instr.typeAssert (.iface 96 (.pointer (some p))) 56 96 false).run Try.prog w = .ok (.pointer (some p)) w := by kernel_rfl
theorem ta_A1 (w : World) (p : Addr) : (Instr.typeAssert (.iface 97 (.pointer (some p))) 56 97 false).run Try.prog w = .ok (.pointer (some p)) w := by kernel_rfl
theorem ta_NA (w : World) : (Instr.typeAssert (.nilIface) 56 97 true).run Try.prog w = .ok (.tuple #[.pointer none, .bool false]) w := by kernel_rfl
theorem ta_NS (w : World) : (Instr.typeAssert (.nilIface) 56 96 true).run Try.prog w = .ok (.tuple #[.pointer none, .bool false]) w := by kernel_rfl
set_option maxRecDepth 100000 in
theorem veith_A (p : Addr) (w : World) : Calls Try.prog 49 #[.iface 97 (.pointer (some p))] w fun e w' => e = .returned (.tuple #[.pointer none, .pointer (some p)]) ∧ Below w.heap.size w w' := by
  have fAA := ta_AA
  have fAS := ta_AS
  have fSS := ta_SS
  have fSA := ta_SA
  have fS1 := ta_S1
  have fNA := ta_NA
  have fNS := ta_NS
  go_enter Try.func49, Try.ntmps49
  go_wp2
  go_ret2
  exact ⟨rfl, (by repeat' (first | (with_reducible exact Below.refl _ _) | (with_reducible assumption) | (with_reducible refine below_over ?_ _ _) | (with_reducible refine Lw.below_alloc ?_ _) | (with_reducible refine Below.drew ?_) | (with_reducible refine below_drewN ?_ _) | (with_reducible refine Below.setCell ?_ ?_ _) | go_size))⟩
set_option maxRecDepth 100000 in
theorem veith_S (p : Addr) (w : World) : Calls Try.prog 49 #[.iface 96 (.pointer (some p))] w fun e w' => e = .returned (.tuple #[.pointer (some p), .pointer none]) ∧ Below w.heap.size w w' := by
  have fAA := ta_AA
  have fAS := ta_AS
  have fSS := ta_SS
  have fSA := ta_SA
  have fS1 := ta_S1
  have fNA := ta_NA
  have fNS := ta_NS
  go_enter Try.func49, Try.ntmps49
  go_wp2
  go_ret2
  exact ⟨rfl, (by repeat' (first | (with_reducible exact Below.refl _ _) | (with_reducible assumption) | (with_reducible refine below_over ?_ _ _) | (with_reducible refine Lw.below_alloc ?_ _) | (with_reducible refine Below.drew ?_) | (with_reducible refine below_drewN ?_ _) | (with_reducible refine Below.setCell ?_ ?_ _) | go_size))⟩
set_option maxRecDepth 100000 in
theorem veith_N (w : World) : Calls Try.prog 49 #[.nilIface] w fun e w' => e = .returned (.tuple #[.pointer none, .pointer none]) ∧ Below w.heap.size w w' := by
  have fAA := ta_AA
  have fAS := ta_AS
  have fSS := ta_SS
  have fSA := ta_SA
  have fS1 := ta_S1
  have fNA := ta_NA
  have fNS := ta_NS
  go_enter Try.func49, Try.ntmps49
  go_wp2
  go_ret2
  exact ⟨rfl, (by repeat' (first | (with_reducible exact Below.refl _ _) | (with_reducible assumption) | (with_reducible refine below_over ?_ _ _) | (with_reducible refine Lw.below_alloc ?_ _) | (with_reducible refine Below.drew ?_) | (with_reducible refine below_drewN ?_ _) | (with_reducible refine Below.setCell ?_ ?_ _) | go_size))⟩
set_option maxRecDepth 100000 in
theorem vcopy_nil (w : World) : Calls Try.prog 36 #[.nilIface] w fun e w' => e = .returned .nilIface ∧ Below w.heap.size w w' := by
  go_enter Try.func36, Try.ntmps36
  go_wp2_with (go_at_call 49; (with_reducible refine (veith_N _).mono ?_); rintro e w1 ⟨rfl, hb9⟩; obtain ⟨bs1, d1, rfl⟩ := below_grow hb9; clear hb9)
  go_ret
  exact ⟨rfl, (by repeat' (first | (with_reducible exact Below.refl _ _) | (with_reducible assumption) | (with_reducible refine below_over ?_ _ _) | (with_reducible refine Lw.below_alloc ?_ _) | (with_reducible refine Below.drew ?_) | (with_reducible refine below_drewN ?_ _) | (with_reducible refine Below.setCell ?_ ?_ _) | go_size))⟩
set_option maxRecDepth 100000 in
set_option maxHeartbeats 4000000 in
theorem vcopy_A (p : Addr) (F : Nat → Prop) (c : Cfg) (l : Int) (L : List Int) (w : World) (h : EX w p F c l L) :
    Calls Try.prog 36 #[.iface 97 (.pointer (some p))] w fun e w' => ∃ (q : Addr) (G : Nat → Prop), e = .returned (.iface 97 (.pointer (some q))) ∧ EX w' q G c l L ∧ (∀ k, G k → w.heap.size ≤ k) ∧ Below w.heap.size w w' := by
  have C := Lib.hid (fun w' (hb : Below w.heap.size w w') => ecopy_any p F c l L w' (h.up hb))
  clear h
  go_enter Try.func36, Try.ntmps36
  go_wp2_with (first
    | (go_at_call 49; (with_reducible refine (veith_A p _).mono ?_); rintro e w1 ⟨rfl, hb9⟩; have HB1 := Lib.hid hb9; clear hb9)
    | (go_at_call 51; (with_reducible refine (C.out _ HB1.out).mono ?_); rintro e w2 ⟨q, G, rfl, h1, h2, hb9⟩; have H1 := Lib.hid h1; have H2 : Hid (∀ k, G k → w.heap.size ≤ k) := Lib.hid (fun k hk => Nat.le_trans HB1.out.size (h2 k hk)); have HB := Lib.hid (below_call HB1.out hb9 (Nat.le_refl _)); clear h1 h2 hb9))
  go_ret
  exact ⟨q, G, rfl, H1.out, H2.out, HB.out⟩
set_option maxRecDepth 100000 in
set_option maxHeartbeats 4000000 in
theorem vcopy_S (p : Addr) (F : Nat → Prop) (c : Cfg) (l : Int) (L : List (List Int)) (w : World) (h : SK w p F c l L) :
    Calls Try.prog 36 #[.iface 96 (.pointer (some p))] w fun e w' => ∃ (q : Addr) (G : Nat → Prop), e = .returned (.iface 96 (.pointer (some q))) ∧ SK w' q G c l L ∧ (∀ k, G k → w.heap.size ≤ k) ∧ Below w.heap.size w w' := by
  have C := Lib.hid (fun w' (hb : Below w.heap.size w w') => scopy_any p F c l L w' (h.up hb))
  clear h
  go_enter Try.func36, Try.ntmps36
  go_wp2_with (first
    | (go_at_call 49; (with_reducible refine (veith_S p _).mono ?_); rintro e w1 ⟨rfl, hb9⟩; have HB1 := Lib.hid hb9; clear hb9)
    | (go_at_call 50; (with_reducible refine (C.out _ HB1.out).mono ?_); rintro e w2 ⟨q, G, rfl, h1, h2, hb9⟩; have H1 := Lib.hid h1; have H2 : Hid (∀ k, G k → w.heap.size ≤ k) := Lib.hid (fun k hk => Nat.le_trans HB1.out.size (h2 k hk)); have HB := Lib.hid (below_call HB1.out hb9 (Nat.le_refl _)); clear h1 h2 hb9))
  go_ret
  exact ⟨q, G, rfl, H1.out, H2.out, HB.out⟩
set_option maxRecDepth 100000 in
set_option maxHeartbeats 4000000 in
theorem vnew_A (c : Cfg) (l : Int) (w : World) (h : c.Ok) (l0 : -9223372036854775808 ≤ l) (l1 : l ≤ 9223372036854775807) (hx : exactB c l = true) :
    Calls Try.prog 42 #[.agg #[.int .i64 c.bt, .int .i64 c.rw, .int .i64 c.wd, .int .i64 c.md, .int .u64 c.sd], .int .i64 l] w fun e w' => ∃ (p : Addr) (F : Nat → Prop), e = .returned (.tuple #[.iface 97 (.pointer (some p)), .int .i64 0]) ∧ EX w' p F c l (List.replicate (keys c l).toNat 0) ∧ (∀ k, F k → w.heap.size ≤ k) ∧ Below w.heap.size w w' := by
  have hk : 1 ≤ keys c l := (of_decide_eq_true hx).1
  have CK := Lib.hid (fun w => keys_any c l w h l0 l1)
  have CX := Lib.hid (fun w => exact_any c l w h l0 l1)
  have hkb : (keys c l == 0) = false := by simp; omega
  rw [hx] at CX
  have CN := Lib.hid (fun w => enew_yes c l w h l0 l1 hx)
  obtain ⟨K, hK⟩ : ∃ x, keys c l = x := ⟨_, rfl⟩
  rw [hK] at CK hkb
  have HBX : Hid (Have w (w.alloc (.cells #[.int .i64 c.bt, .int .i64 c.rw, .int .i64 c.wd, .int .i64 c.md, .int .u64 c.sd] 24)) [boxT w.heap.size 24 #[.int .i64 c.bt, .int .i64 c.rw, .int .i64 c.wd, .int .i64 c.md, .int .u64 c.sd]]) := Lib.hid (box_new w _ _)
  clear hx h hk hK
  go_enter Try.func42, Try.ntmps42
  go_wp2_with (first
    | (go_at_call 30; (with_reducible refine (CK.out _).mono ?_); rintro e w1 ⟨rfl, hb9⟩; have HV1 := Lib.hid (HBX.out.up hb9); obtain ⟨x0, x1, x2, x3, x4⟩ := box5 HV1.out.i0; clear hb9)
    | (go_at_call 11; (with_reducible refine (CX.out _).mono ?_); rintro e w2 ⟨rfl, hb9⟩; clear x0 x1 x2 x3 x4; have HV2 := Lib.hid (HV1.out.up hb9); obtain ⟨x0, x1, x2, x3, x4⟩ := box5 HV2.out.i0; clear hb9)
    | (go_at_call 55; (with_reducible refine (CN.out _).mono ?_); rintro e w3 ⟨p, F, rfl, h1, h2, hb9⟩; have H1 := Lib.hid h1; have H2 : Hid (∀ k, F k → w.heap.size ≤ k) := Lib.hid (fun k hk => Nat.le_trans HV2.out.below.size (h2 k hk)); have HB2 := Lib.hid (below_call HV2.out.below hb9 (Nat.le_refl _)); clear h1 h2 hb9))
  go_ret2
  exact ⟨p, F, rfl, H1.out, H2.out, HB2.out⟩
set_option maxRecDepth 100000 in
set_option maxHeartbeats 4000000 in
theorem vnew_S (c : Cfg) (l : Int) (w : World) (h : c.Ok) (l0 : -9223372036854775808 ≤ l) (l1 : l ≤ 9223372036854775807) (hk : 1 ≤ keys c l) (hx : exactB c l = false) :
    Calls Try.prog 42 #[.agg #[.int .i64 c.bt, .int .i64 c.rw, .int .i64 c.wd, .int .i64 c.md, .int .u64 c.sd], .int .i64 l] w fun e w' => ∃ (p : Addr) (F : Nat → Prop), e = .returned (.tuple #[.iface 96 (.pointer (some p)), .int .i64 0]) ∧ SK w' p F c l (zerosL (rws c) (wds c)) ∧ (∀ k, F k → w.heap.size ≤ k) ∧ Below w.heap.size w w' := by
  have CK := Lib.hid (fun w => keys_any c l w h l0 l1)
  have CX := Lib.hid (fun w => exact_any c l w h l0 l1)
  have hkb : (keys c l == 0) = false := by simp; omega
  rw [hx] at CX
  have CN := Lib.hid (fun w => snew_yes c l w h l0 l1 hk)
  obtain ⟨K, hK⟩ : ∃ x, keys c l = x := ⟨_, rfl⟩
  rw [hK] at CK hkb
  have HBX : Hid (Have w (w.alloc (.cells #[.int .i64 c.bt, .int .i64 c.rw, .int .i64 c.wd, .int .i64 c.md, .int .u64 c.sd] 24)) [boxT w.heap.size 24 #[.int .i64 c.bt, .int .i64 c.rw, .int .i64 c.wd, .int .i64 c.md, .int .u64 c.sd]]) := Lib.hid (box_new w _ _)
  clear hx h hk hK
  go_enter Try.func42, Try.ntmps42
  go_wp2_with (first
    | (go_at_call 30; (with_reducible refine (CK.out _).mono ?_); rintro e w1 ⟨rfl, hb9⟩; have HV1 := Lib.hid (HBX.out.up hb9); obtain ⟨x0, x1, x2, x3, x4⟩ := box5 HV1.out.i0; clear hb9)
    | (go_at_call 11; (with_reducible refine (CX.out _).mono ?_); rintro e w2 ⟨rfl, hb9⟩; clear x0 x1 x2 x3 x4; have HV2 := Lib.hid (HV1.out.up hb9); obtain ⟨x0, x1, x2, x3, x4⟩ := box5 HV2.out.i0; clear hb9)
    | (go_at_call 56; (with_reducible refine (CN.out _).mono ?_); rintro e w3 ⟨p, F, rfl, h1, h2, hb9⟩; have H1 := Lib.hid h1; have H2 : Hid (∀ k, F k → w.heap.size ≤ k) := Lib.hid (fun k hk => Nat.le_trans HV2.out.below.size (h2 k hk)); have HB2 := Lib.hid (below_call HV2.out.below hb9 (Nat.le_refl _)); clear h1 h2 hb9))
  go_ret2
  exact ⟨p, F, rfl, H1.out, H2.out, HB2.out⟩
set_option maxRecDepth 100000 in
set_option maxHeartbeats 4000000 in
theorem vnew_N (c : Cfg) (l : Int) (w : World) (h : c.Ok) (l0 : -9223372036854775808 ≤ l) (l1 : l ≤ 9223372036854775807) (hk : keys c l = 0) :
    Calls Try.prog 42 #[.agg #[.int .i64 c.bt, .int .i64 c.rw, .int .i64 c.wd, .int .i64 c.md, .int .u64 c.sd], .int .i64 l] w fun e w' => e = .returned (.tuple #[.nilIface, .int .i64 1]) ∧ Below w.heap.size w w' := by
  have CK := Lib.hid (fun w => keys_any c l w h l0 l1)
  rw [hk] at CK
  have HBX : Hid (Have w (w.alloc (.cells #[.int .i64 c.bt, .int .i64 c.rw, .int .i64 c.wd, .int .i64 c.md, .int .u64 c.sd] 24)) [boxT w.heap.size 24 #[.int .i64 c.bt, .int .i64 c.rw, .int .i64 c.wd, .int .i64 c.md, .int .u64 c.sd]]) := Lib.hid (box_new w _ _)
  clear  h hk
  go_enter Try.func42, Try.ntmps42
  go_wp2_with (go_at_call 30; (with_reducible refine (CK.out _).mono ?_); rintro e w1 ⟨rfl, hb9⟩; have HV1 := Lib.hid (HBX.out.up hb9); obtain ⟨x0, x1, x2, x3, x4⟩ := box5 HV1.out.i0; clear hb9)
  go_ret2
  have hb9 := HV1.out.below
  exact ⟨rfl, (by repeat' (first | (with_reducible exact Below.refl _ _) | (with_reducible assumption) | (with_reducible refine below_over ?_ _ _) | (with_reducible refine Lw.below_alloc ?_ _) | (with_reducible refine Below.drew ?_) | (with_reducible refine below_drewN ?_ _) | (with_reducible refine Below.setCell ?_ ?_ _) | go_size))⟩
end Go.Proofs.Ytccabgeeglhagaa.Lev
/- The document's Columns: its row lies in a block of its own. Printed by wip/gen/skref.py. -/
namespace Go.Proofs.Ytccabgeeglhagaa.Shp
open Go Go.RowKit Lw
set_option linter.unusedVariables false
set_option linter.unusedSimpArgs false
end Go.Proofs.Ytccabgeeglhagaa.Shp
/- Many things as one, and things that are held while a call turns them. For stages from 15 on (a row of levels). -/
namespace Go.Proofs.Ytccabgeeglhagaa.Lw
open Go Go.RowKit
set_option linter.unusedVariables false
def Asun : List Thing → Prop
  | [] => True
  | t :: ts => (∀ u ∈ ts, ∀ k, t.F k → ¬ u.F k) ∧ Asun ts
theorem Asun.append : ∀ {ts us : List Thing}, Asun (ts ++ us) ↔ Asun ts ∧ Asun us ∧ ∀ t ∈ ts, ∀ u ∈ us, ∀ k, t.F k → ¬ u.F k
  | [], us => by simp [Asun]
  | t :: ts, us => by
    have ih := Asun.append (ts := ts) (us := us)
    constructor
    · intro h
      have h2 := ih.1 h.2
      refine ⟨⟨fun u hu => h.1 u (by simp [hu]), h2.1⟩, h2.2.1, fun s hs u hu => ?_⟩
      rcases List.mem_cons.1 hs with rfl | hs
      · exact h.1 u (by simp [hu])
      · exact h2.2.2 s hs u hu
    · intro h
      refine ⟨fun u hu => ?_, ih.2 ⟨h.1.2, h.2.1, fun s hs => h.2.2 s (by simp [hs])⟩⟩
      rcases List.mem_append.1 hu with h1 | h1
      · exact h.1.1 u h1
      · exact h.2.2 t (by simp) u h1
/-- Many things as one. -/
def manyT (ts : List Thing) : Thing where
  I := fun w => (∀ t ∈ ts, t.I w) ∧ Asun ts
  F := fun k => ∃ t ∈ ts, t.F k
  keep := fun w w' H h hk hf => ⟨fun t ht => t.keep w w' H (h.1 t ht) hk (fun k h1 => hf k ⟨t, ht, h1⟩), h.2⟩
  lt := fun w h k hk => by
    obtain ⟨t, ht, h1⟩ := hk
    exact t.lt w (h.1 t ht) k h1
/-- The things ts, apart, each in blocks of F0 or in such as were made behind w0; no other block of w0 was changed. -/
def Hold (F0 : Nat → Prop) (w0 w : World) (ts : List Thing) : Prop :=
  Kept F0 w0 w ∧ (∀ t ∈ ts, t.I w ∧ ∀ k, t.F k → F0 k ∨ w0.heap.size ≤ k) ∧ Asun ts
theorem Hold.start {w : World} {ts : List Thing} (h : (manyT ts).I w) : Hold (manyT ts).F w w ts :=
  ⟨Kept.refl _ _, fun t ht => ⟨h.1 t ht, fun k hk => .inl ⟨t, ht, hk⟩⟩, h.2⟩
theorem Hold.many {F0 : Nat → Prop} {w0 w : World} {ts : List Thing} (h : Hold F0 w0 w ts) : (manyT ts).I w ∧ Kept F0 w0 w ∧ (∀ k, (manyT ts).F k → F0 k ∨ w0.heap.size ≤ k) :=
  ⟨⟨fun t ht => (h.2.1 t ht).1, h.2.2⟩, h.1, fun k ⟨t, ht, hk⟩ => (h.2.1 t ht).2 k hk⟩
theorem Hold.up {F0 : Nat → Prop} {w0 w w' : World} {ts : List Thing} (h : Hold F0 w0 w ts) (hb : Below w.heap.size w w') : Hold F0 w0 w' ts :=
  ⟨Kept.then h.1 hb, fun t ht => ⟨t.keep w w' (fun _ => False) (h.2.1 t ht).1 (Kept.of_below hb) (fun _ _ h => h), (h.2.1 t ht).2⟩, h.2.2⟩
theorem Hold.push {F0 : Nat → Prop} {w0 w w' : World} {ts : List Thing} (h : Hold F0 w0 w ts) (t : Thing) (hb : Below w.heap.size w w') (ht : t.I w') (hn : ∀ k, t.F k → w.heap.size ≤ k) : Hold F0 w0 w' (t :: ts) := by
  have h2 := h.up hb
  refine ⟨h2.1, fun u hu => ?_, fun u hu k hk hu2 => ?_, h2.2.2⟩
  · rcases List.mem_cons.1 hu with rfl | hu
    · exact ⟨ht, fun k hk => .inr (Nat.le_trans h.1.size (hn k hk))⟩
    · exact h2.2.1 u hu
  · have h3 := u.lt w (h.2.1 u hu).1 k hu2
    have h4 := hn k hk
    omega
/-- One of them is turned by a call. -/
theorem Hold.turn {F0 : Nat → Prop} {w0 w w' : World} {fs : List Thing} {t : Thing} {ts : List Thing} (h : Hold F0 w0 w (fs ++ t :: ts)) (t' : Thing) (ht : t'.I w') (hk : Kept t.F w w') (hF : ∀ k, t'.F k → t.F k ∨ w.heap.size ≤ k) : Hold F0 w0 w' (fs ++ t' :: ts) := by
  have hap := Asun.append.1 h.2.2
  have htI := h.2.1 t (by simp)
  have hoth : ∀ u, u ∈ fs ∨ u ∈ ts → ∀ k, u.F k → ¬ t.F k := by
    intro u hu k h1 h2
    rcases hu with hu | hu
    · exact hap.2.2 u hu t (by simp) k h1 h2
    · exact hap.2.1.1 u hu k h2 h1
  have hin : ∀ u, u ∈ fs ∨ u ∈ ts → u ∈ fs ++ t :: ts := by
    intro u hu
    rcases hu with hu | hu
    · simp [hu]
    · simp [hu]
  have hnew : ∀ u, u ∈ fs ∨ u ∈ ts → ∀ k, t'.F k → ¬ u.F k := by
    intro u hu k h1 h2
    rcases hF k h1 with h3 | h3
    · exact hoth u hu k h2 h3
    · have := u.lt w (h.2.1 u (hin u hu)).1 k h2
      omega
  refine ⟨?_, fun u hu => ?_, ?_⟩
  · refine ⟨hk.os.trans h.1.os, hk.tape.trans h.1.tape, hk.output.trans h.1.output, Nat.le_trans h.1.size hk.size, fun k hk0 hF0 => ?_⟩
    refine (hk.block k (Nat.lt_of_lt_of_le hk0 h.1.size) fun hG => ?_).trans (h.1.block k hk0 hF0)
    rcases htI.2 k hG with h1 | h1
    · exact hF0 h1
    · omega
  · rcases List.mem_append.1 hu with h1 | h1
    · exact ⟨u.keep w w' t.F (h.2.1 u (hin u (.inl h1))).1 hk (hoth u (.inl h1)), (h.2.1 u (hin u (.inl h1))).2⟩
    · rcases List.mem_cons.1 h1 with rfl | h1
      · refine ⟨ht, fun k hk2 => ?_⟩
        rcases hF k hk2 with h3 | h3
        · exact htI.2 k h3
        · exact .inr (Nat.le_trans h.1.size h3)
      · exact ⟨u.keep w w' t.F (h.2.1 u (hin u (.inr h1))).1 hk (hoth u (.inr h1)), (h.2.1 u (hin u (.inr h1))).2⟩
  · refine Asun.append.2 ⟨hap.1, ⟨fun u hu k h1 h2 => hnew u (.inr hu) k h1 h2, hap.2.1.2⟩, fun s hs u hu k h1 h2 => ?_⟩
    rcases List.mem_cons.1 hu with rfl | hu
    · exact hnew s (.inl hs) k h2 h1
    · exact hap.2.2 s hs u (by simp [hu]) k h1 h2
theorem Hold.i {F0 : Nat → Prop} {w0 w : World} {ts : List Thing} (h : Hold F0 w0 w ts) {t : Thing} (ht : t ∈ ts) : t.I w := (h.2.1 t ht).1
/-- Things side by side, taken together and apart again. -/
theorem Have.many {w0 w : World} : ∀ {ts us : List Thing}, Have w0 w (ts ++ us) → Have w0 w (manyT ts :: us) := by
  intro ts us h
  have hap : ∀ {ts : List Thing}, Have w0 w (ts ++ us) → Asun ts ∧ (∀ t ∈ ts, ∀ u ∈ us, ∀ k, t.F k → ¬ u.F k) ∧ Have w0 w us := by
    intro ts
    induction ts with
    | nil => intro h; exact ⟨trivial, fun t ht => by simp at ht, h⟩
    | cons t ts ih =>
      intro h
      obtain ⟨h1, h2, h3⟩ := ih h.2.2.2
      refine ⟨⟨fun u hu => h.2.2.1 u (by simp [hu]), h1⟩, fun s hs u hu => ?_, h3⟩
      rcases List.mem_cons.1 hs with rfl | hs
      · exact h.2.2.1 u (by simp [hu])
      · exact h2 s hs u hu
  obtain ⟨h1, h2, h3⟩ := hap h
  exact ⟨⟨fun t ht => (h.one t (by simp [ht])).1, h1⟩, fun k ⟨t, ht, hk⟩ => (h.one t (by simp [ht])).2 k hk, fun u hu k ⟨t, ht, hk⟩ => h2 t ht u hu k hk, h3⟩
theorem Have.each {w0 w : World} : ∀ {ts us : List Thing}, Have w0 w (manyT ts :: us) → Have w0 w (ts ++ us)
  | [], us, h => h.2.2.2
  | t :: ts, us, h => by
    refine ⟨h.1.1 t (by simp), fun k hk => h.2.1 k ⟨t, by simp, hk⟩, fun u hu k hk => ?_, Have.each (ts := ts) ⟨⟨fun s hs => h.1.1 s (by simp [hs]), h.1.2.2⟩, fun k ⟨s, hs, hk⟩ => h.2.1 k ⟨s, by simp [hs], hk⟩, fun u hu k ⟨s, hs, hk⟩ => h.2.2.1 u hu k ⟨s, by simp [hs], hk⟩, h.2.2.2⟩⟩
    rcases List.mem_append.1 hu with h1 | h1
    · exact h.1.2.1 u h1 k hk
    · exact h.2.2.1 u h1 k ⟨t, by simp, hk⟩
end Go.Proofs.Ytccabgeeglhagaa.Lw
/- A row of updates of one's own, as a thing; one update appended. Printed by wip/gen/innplain.py. -/
namespace Go.Proofs.Ytccabgeeglhagaa.Sk
open Go Go.RowKit Lw Grd Lin Con Shp
set_option linter.unusedVariables false
theorem add_block (a : Addr) (j : Nat) : (a.add j).block = a.block := by
  unfold Addr.add
  split <;> rfl
theorem UpdV.keep {w w' : World} {A : Option Addr} {n c : Nat} {qs : Ups} {H : Nat → Prop} (h : UpdV w A n c qs) (hk : Kept H w w') (hf : ∀ a, A = some a → ¬ H a.block) : UpdV w' A n c qs :=
  ⟨h.nil, h.nc, h.cm, h.len, fun i q hq => by
    obtain ⟨a, e, h1, h2, h3⟩ := h.each i q hq
    exact ⟨a, e, hk.cell h1 (by rw [add_block]; exact hf a e), hk.cell h2 (by rw [add_block]; exact hf a e), h3⟩⟩
def upT (A : Option Addr) (n c : Nat) (us : Ups) : Thing where
  I := fun w => UpdV w A n c us ∧ ∀ a, A = some a → a.block < w.heap.size
  F := fun k => ∃ a, A = some a ∧ a.block = k
  keep := fun w w' H h hk hf => ⟨h.1.keep hk (fun a e => hf _ ⟨a, e, rfl⟩), fun a e => Nat.lt_of_lt_of_le (h.2 a e) hk.size⟩
  lt := fun w h k hk => by
    obtain ⟨a, e, rfl⟩ := hk
    exact h.2 a e
theorem upI {w : World} {A : Option Addr} {n c : Nat} {us : Ups} (h : (upT A n c us).I w) : UpdV w A n c us := h.1
/-- What a row of updates of one's own is. -/
theorem upd_own {w : World} {base : Nat} {e : TypeId} {v : Value} {n : Nat} {us : Ups} (h : w.ownsRow base e 2 v n (flatU us)) (hl : us.length = n) (hb : ∀ u ∈ us, (0 ≤ u.1 ∧ u.1 ≤ 18446744073709551615) ∧ (-9223372036854775808 ≤ u.2 ∧ u.2 ≤ 9223372036854775807)) :
    ∃ A cap, v = .slice A n cap ∧ (upT A n cap us).I w ∧ ∀ k, (upT A n cap us).F k → base ≤ k := by
  have hge := own_ge h
  rcases h.2 with ⟨h1, h2⟩ | ⟨g, cap, cur, h1, h2, h3, h4, h5, h6, h7⟩
  · subst h2
    refine ⟨none, 0, by rw [h1], ⟨⟨fun _ => ⟨rfl, rfl⟩, Nat.le_refl _, by decide, hl, fun i q hq => ?_⟩, (fun a e => by cases e)⟩, (fun k hk => by obtain ⟨a, e, _⟩ := hk; cases e)⟩
    have := (List.getElem?_eq_some_iff.1 hq).1
    omega
  · subst h1
    have hg : g < w.heap.size := own_lt h rfl
    refine ⟨some ⟨g, 0, none⟩, cap, rfl, ⟨⟨(fun e => by cases e), h4, by assumption, hl, fun i q hq => ⟨_, rfl, (own_pair h hq).1, (own_pair h hq).2, hb q (List.mem_of_getElem? hq)⟩⟩, (fun a e => by injection e with e; subst e; exact hg)⟩, fun k hk => ?_⟩
    obtain ⟨a, e, rfl⟩ := hk
    injection e with e
    subst e
    exact hge g rfl
end Go.Proofs.Ytccabgeeglhagaa.Sk
/- The document's sketch: a block of its config, its level and its grid; New, Update. Printed by wip/gen/skref.py. -/
namespace Go.Proofs.Ytccabgeeglhagaa.Sk
open Go Go.RowKit Lw Grd Lin Con Shp
set_option linter.unusedVariables false
set_option linter.unusedSimpArgs false
end Go.Proofs.Ytccabgeeglhagaa.Sk
/- The document's sketch: Point, Join. Printed by wip/gen/skdoc.py. -/
namespace Go.Proofs.Ytccabgeeglhagaa.Sk
open Go Go.RowKit Lw Grd Lin Con Shp
set_option linter.unusedVariables false
set_option linter.unusedSimpArgs false
end Go.Proofs.Ytccabgeeglhagaa.Sk
/- The document's sketch: Copy. Printed by wip/gen/skdocc.py. -/
namespace Go.Proofs.Ytccabgeeglhagaa.Sk
open Go Go.RowKit Lw Grd Lin Con Shp
set_option linter.unusedVariables false
set_option linter.unusedSimpArgs false
theorem nums_set (R : List Row) (K : Nat) (x : Row) : nums (R.set K x) = (nums R).set K x.2.2 := by unfold nums; rw [List.map_set]
theorem take_drop_set {L Z : List (List Int)} {r : Nat} {xs : List Int} (h : L[r]? = some xs) (hl : L.length = Z.length) : (L.take r ++ Z.drop r).set r xs = L.take (r + 1) ++ Z.drop (r + 1) := by
  obtain ⟨h1, h2⟩ := List.getElem?_eq_some_iff.1 h
  apply List.ext_getElem?
  intro j
  rw [List.getElem?_set, List.getElem?_append, List.getElem?_append]
  simp only [List.length_append, List.length_take, List.length_drop]
  by_cases hj : r = j
  · subst hj
    rw [if_pos rfl, if_pos (by omega), if_pos (by omega), List.getElem?_take, if_pos (by omega), h]
  · rw [if_neg hj]
    by_cases hj2 : j < r
    · rw [if_pos (by omega), if_pos (by omega), List.getElem?_take, List.getElem?_take, if_pos hj2, if_pos (by omega)]
    · rw [if_neg (by omega), if_neg (by omega), List.getElem?_drop, List.getElem?_drop]
      congr 1
      omega
theorem own_zero {w : World} {B : Nat} {e : TypeId} {v : Value} {n : Nat} {xs : List Value} (h : w.ownsRow B e 1 v n xs) : w.ownsRow 0 e 1 v n xs := by
  refine ⟨h.1, ?_⟩
  rcases h.2 with h1 | ⟨g, cap, cur, h1, h2, h3⟩
  · exact .inl h1
  · exact .inr ⟨g, cap, cur, h1, Nat.zero_le _, h3⟩
theorem frozen_below {w w' : World} {g j : Nat} (h : Below w.heap.size w w') (hg : g < w.heap.size) : w'.frozen? ⟨g, j, none⟩ = w.frozen? ⟨g, j, none⟩ := by
  unfold World.frozen?
  rw [h.block g hg]
end Go.Proofs.Ytccabgeeglhagaa.Sk
/- The document's level as a thing: a block of two pointers, of which one leads to an array or a sketch. Printed by wip/gen/levref.py. -/
namespace Go.Proofs.Ytccabgeeglhagaa.Lev
open Go Go.RowKit Lw Grd Lin Con Shp Sk Exa
set_option linter.unusedVariables false
set_option linter.unusedSimpArgs false
end Go.Proofs.Ytccabgeeglhagaa.Lev
/- The walks of gaugerref13 (the document's level): New, Copy, Update, Point, Cells, Join. Printed by wip/gen/levref.py. -/
namespace Go.Proofs.Ytccabgeeglhagaa.Lev
open Go Go.RowKit Lw Grd Lin Con Shp Sk Exa
set_option linter.unusedVariables false
set_option linter.unusedSimpArgs false
theorem tup (t : Thing) {w w' : World} (h : t.I w) (hb : Below w.heap.size w w') : t.I w' := t.keep w w' (fun _ => False) h (Kept.of_below hb) (fun _ _ h => h)
end Go.Proofs.Ytccabgeeglhagaa.Lev
/- The walk of gaugerref13's Load. Printed by wip/gen/levload.py. -/
namespace Go.Proofs.Ytccabgeeglhagaa.Lev
open Go Go.RowKit Lw Grd Lin Con Shp Sk Exa
set_option linter.unusedVariables false
set_option linter.unusedSimpArgs false
end Go.Proofs.Ytccabgeeglhagaa.Lev
/- Levels of both kinds alike: what a level has (LS), the document's level (DLV), the code's (ELV). For stages from 15 on. Printed by wip/gen/lvl.py. -/
namespace Go.Proofs.Ytccabgeeglhagaa.Stk
open Go Go.RowKit Lw Grd Lin Con Shp Sk Exa Lev
set_option linter.unusedVariables false
set_option linter.unusedSimpArgs false
/-- What a level has: an array's numbers, or a sketch's cells. -/
inductive LS where
  | A (L : List Int)
  | S (L : List (List Int))
def LS.fl : LS → List Int
  | .A L => L
  | .S L => L.flatten
def LS.ar : LS → Bool
  | .A _ => true
  | .S _ => false
def lsZero (c : Cfg) (l : Int) : LS := if exactB c l = true then .A (List.replicate (keys c l).toNat 0) else .S (zerosL (rws c) (wds c))
def lsCode (c : Cfg) (l : Int) (st : LS) (k d : Int) : Int := match st with
  | .A L => exCode c.md L k d
  | .S L => upCode c l L k d
def lsRes (c : Cfg) (l : Int) (st : LS) (k d : Int) : LS := match st with
  | .A L => .A (exRes c.md L k d)
  | .S L => .S (upRes c l L k d)
def lsPtV (c : Cfg) (l : Int) (st : LS) (k : Int) : Int := match st with
  | .A L => Exa.ptV L k
  | .S L => ptVal c l L k
def lsPtC (c : Cfg) (l : Int) (st : LS) (k : Int) : Int := match st with
  | .A L => Exa.ptC L k
  | .S _ => ptCode c l k
/-- The code's level, as the value that an interface holds. -/
def ELV (w : World) (v : Value) (F : Nat → Prop) (c : Cfg) (l : Int) (st : LS) : Prop := exactB c l = st.ar ∧ match st with
  | .A L => ∃ p, v = .iface 97 (.pointer (some p)) ∧ EX w p F c l L
  | .S L => ∃ p, v = .iface 96 (.pointer (some p)) ∧ SK w p F c l L
theorem ELV.keep {w w' : World} {v : Value} {F H : Nat → Prop} {c : Cfg} {l : Int} {st : LS} (h : ELV w v F c l st) (hk : Kept H w w') (hf : ∀ k, F k → ¬ H k) : ELV w' v F c l st := by
  refine ⟨h.1, ?_⟩
  cases st with
  | A L =>
    obtain ⟨p, e, h2⟩ := h.2
    exact ⟨p, e, h2.keep hk hf⟩
  | S L =>
    obtain ⟨p, e, h2⟩ := h.2
    exact ⟨p, e, (skT p F c l L).keep w w' H h2 hk hf⟩
def elvT (v : Value) (F : Nat → Prop) (c : Cfg) (l : Int) (st : LS) : Thing where
  I := fun w => ELV w v F c l st
  F := F
  keep := fun w w' H h hk hf => h.keep hk hf
  lt := fun w h k hk => by
    cases st with
    | A L =>
      obtain ⟨p, e, h2⟩ := h.2
      exact h2.lt k hk
    | S L =>
      obtain ⟨p, e, h2⟩ := h.2
      exact (skT p F c l L).lt w h2 k hk
theorem ev_new (c : Cfg) (l : Int) (w : World) (h : c.Ok) (hr : IsRight c) (l0 : 0 ≤ l) (l1 : l ≤ c.bt) :
    Calls Try.prog 42 #[.agg #[.int .i64 c.bt, .int .i64 c.rw, .int .i64 c.wd, .int .i64 c.md, .int .u64 c.sd], .int .i64 l] w fun e w' => ∃ (v : Value) (F : Nat → Prop), e = .returned (.tuple #[v, .int .i64 0]) ∧ ELV w' v F c l (lsZero c l) ∧ (∀ k, F k → w.heap.size ≤ k) ∧ Below w.heap.size w w' := by
  have hb := hr.2.1
  have hb1 := hr.1
  have hk : 1 ≤ keys c l := keys_pos.2 ⟨hr, l0, l1⟩
  unfold lsZero
  cases hx : exactB c l with
  | true =>
    rw [if_pos rfl]
    exact (vnew_A c l w h (by omega) (by omega) hx).mono (fun e w' ⟨p, F, h1, h2, h3, h4⟩ => ⟨_, F, h1, ⟨hx, p, rfl, h2⟩, h3, h4⟩)
  | false =>
    rw [if_neg (by simp)]
    exact (vnew_S c l w h (by omega) (by omega) hk hx).mono (fun e w' ⟨p, F, h1, h2, h3, h4⟩ => ⟨_, F, h1, ⟨hx, p, rfl, h2⟩, h3, h4⟩)
theorem ev_copy (v : Value) (F : Nat → Prop) (c : Cfg) (l : Int) (st : LS) (w : World) (h : ELV w v F c l st) :
    Calls Try.prog 36 #[v] w fun e w' => ∃ (u : Value) (Q : Nat → Prop), e = .returned u ∧ ELV w' u Q c l st ∧ (∀ k, Q k → w.heap.size ≤ k) ∧ Below w.heap.size w w' := by
  cases st with
  | A L =>
    obtain ⟨p, rfl, h2⟩ := h.2
    exact (vcopy_A p F c l L w h2).mono (fun e w' ⟨q, Q, h1, h2, h3, h4⟩ => ⟨_, Q, h1, ⟨h.1, q, rfl, h2⟩, h3, h4⟩)
  | S L =>
    obtain ⟨p, rfl, h2⟩ := h.2
    exact (vcopy_S p F c l L w h2).mono (fun e w' ⟨q, Q, h1, h2, h3, h4⟩ => ⟨_, Q, h1, ⟨h.1, q, rfl, h2⟩, h3, h4⟩)
end Go.Proofs.Ytccabgeeglhagaa.Stk
/- A row of levels: values, the things that they point to, and what each has. For stages from 15 on. -/
namespace Go.Proofs.Ytccabgeeglhagaa.Stk
open Go Go.RowKit Lw Grd Lin Con Shp Sk Exa Lev
set_option linter.unusedVariables false
theorem set_split {α : Type} {ts : List α} {j : Nat} {t : α} (h : ts[j]? = some t) : ts = ts.take j ++ t :: ts.drop (j + 1) := by
  obtain ⟨h1, h2⟩ := List.getElem?_eq_some_iff.1 h
  rw [← h2]
  exact (List.take_append_drop j ts).symm.trans (by rw [List.drop_eq_getElem_cons h1])
theorem set_at {α : Type} {ts : List α} {j : Nat} {t t' : α} (h : ts[j]? = some t) : ts.set j t' = ts.take j ++ t' :: ts.drop (j + 1) := by
  obtain ⟨h1, h2⟩ := List.getElem?_eq_some_iff.1 h
  exact List.set_eq_take_append_cons_drop.trans (by rw [if_pos h1])
/-- One of the things of a row is turned by a call. -/
theorem Hold.set {F0 : Nat → Prop} {w0 w w' : World} {pre ts post : List Thing} {j : Nat} {t : Thing} (h : Hold F0 w0 w (pre ++ (ts ++ post))) (hj : ts[j]? = some t) (t' : Thing) (ht : t'.I w') (hk : Kept t.F w w') (hF : ∀ k, t'.F k → t.F k ∨ w.heap.size ≤ k) : Hold F0 w0 w' (pre ++ (ts.set j t' ++ post)) := by
  have e1 : pre ++ (ts ++ post) = (pre ++ ts.take j) ++ t :: (ts.drop (j + 1) ++ post) := by
    conv => lhs; rw [set_split hj]
    simp
  have e2 : pre ++ (ts.set j t' ++ post) = (pre ++ ts.take j) ++ t' :: (ts.drop (j + 1) ++ post) := by
    rw [set_at hj]
    simp
  rw [e1] at h
  rw [e2]
  exact h.turn t' ht hk hF
theorem Have.set {w0 w w' : World} {pre ts post : List Thing} {j : Nat} {t : Thing} (h : Have w0 w (pre ++ (ts ++ post))) (hj : ts[j]? = some t) (t' : Thing) (ht : t'.I w') (hk : Kept t.F w w') (hF : ∀ k, t'.F k → t.F k ∨ w.heap.size ≤ k) : Have w0 w' (pre ++ (ts.set j t' ++ post)) := by
  have e1 : pre ++ (ts ++ post) = (pre ++ ts.take j) ++ t :: (ts.drop (j + 1) ++ post) := by
    conv => lhs; rw [set_split hj]
    simp
  have e2 : pre ++ (ts.set j t' ++ post) = (pre ++ ts.take j) ++ t' :: (ts.drop (j + 1) ++ post) := by
    rw [set_at hj]
    simp
  rw [e1] at h
  rw [e2]
  exact Have.turnX t' ht hk hF h
/-- A row of levels, each made by mk of its value, its blocks, the config, its number and what it has. -/
structure LRow (mk : Value → (Nat → Prop) → Cfg → Int → LS → Thing) (c : Cfg) (vals : List Value) (ts : List Thing) (sts : List LS) : Prop where
  lv : vals.length = sts.length
  lt : ts.length = sts.length
  each : ∀ (j : Nat) (st : LS), sts[j]? = some st → ∃ v Q, vals[j]? = some v ∧ ts[j]? = some (mk v Q c (j : Int) st)
theorem LRow.nil (mk : Value → (Nat → Prop) → Cfg → Int → LS → Thing) (c : Cfg) : LRow mk c [] [] [] := ⟨rfl, rfl, fun j st h => by simp at h⟩
theorem LRow.snoc {mk : Value → (Nat → Prop) → Cfg → Int → LS → Thing} {c : Cfg} {vals : List Value} {ts : List Thing} {sts : List LS} (h : LRow mk c vals ts sts) {n : Nat} (hn : sts.length = n) (v : Value) (Q : Nat → Prop) (st : LS) : LRow mk c (vals ++ [v]) (ts ++ [mk v Q c (n : Int) st]) (sts ++ [st]) := by
  refine ⟨by simp [h.lv], by simp [h.lt], fun j s hj => ?_⟩
  rcases Nat.lt_or_ge j n with h1 | h1
  · rw [List.getElem?_append_left (by omega)] at hj
    obtain ⟨v2, Q2, h2, h3⟩ := h.each j s hj
    exact ⟨v2, Q2, by rw [List.getElem?_append_left (by rw [h.lv]; omega)]; exact h2, by rw [List.getElem?_append_left (by rw [h.lt]; omega)]; exact h3⟩
  · rw [List.getElem?_append_right (by omega), hn] at hj
    have e : j = n := by
      rcases Nat.eq_zero_or_pos (j - n) with h2 | h2
      · omega
      · rw [List.getElem?_eq_none (by simp; omega)] at hj
        cases hj
    subst e
    rw [Nat.sub_self] at hj
    simp at hj
    subst hj
    exact ⟨v, Q, by rw [List.getElem?_append_right (by rw [h.lv]; omega), h.lv, hn]; simp, by rw [List.getElem?_append_right (by rw [h.lt]; omega), h.lt, hn]; simp⟩
theorem LRow.put {mk : Value → (Nat → Prop) → Cfg → Int → LS → Thing} {c : Cfg} {vals : List Value} {ts : List Thing} {sts : List LS} (h : LRow mk c vals ts sts) {j : Nat} {v : Value} (hv : vals[j]? = some v) (Q : Nat → Prop) (st : LS) : LRow mk c vals (ts.set j (mk v Q c (j : Int) st)) (sts.set j st) := by
  have hj := (List.getElem?_eq_some_iff.1 hv).1
  refine ⟨by simp [h.lv], by simp [h.lt], fun i s hi => ?_⟩
  rw [List.getElem?_set] at hi
  by_cases hij : j = i
  · subst hij
    rw [if_pos rfl, if_pos (by rw [← h.lv]; exact hj)] at hi
    injection hi with hi
    subst hi
    exact ⟨v, Q, hv, by rw [List.getElem?_set, if_pos rfl, if_pos (by rw [h.lt, ← h.lv]; exact hj)]⟩
  · rw [if_neg hij] at hi
    obtain ⟨v2, Q2, h2, h3⟩ := h.each i s hi
    exact ⟨v2, Q2, h2, by rw [List.getElem?_set, if_neg hij]; exact h3⟩
theorem LRow.at {mk : Value → (Nat → Prop) → Cfg → Int → LS → Thing} {c : Cfg} {vals : List Value} {ts : List Thing} {sts : List LS} (h : LRow mk c vals ts sts) {j : Nat} (hj : j < sts.length) : ∃ st v Q, sts[j]? = some st ∧ vals[j]? = some v ∧ ts[j]? = some (mk v Q c (j : Int) st) := by
  obtain ⟨v, Q, h1, h2⟩ := h.each j _ (List.getElem?_eq_getElem hj)
  exact ⟨_, v, Q, List.getElem?_eq_getElem hj, h1, h2⟩
/-- A row that grows: a slice of one's own, by its header. -/
def ownT (B : Nat) (e : TypeId) (hdr : Value) (vals : List Value) : Thing where
  I := fun w => w.ownsRow B e 1 hdr vals.length vals
  F := fun k => hdr.ownBlock = some k
  keep := fun w w' H h hk hf => hk.own h (fun q hq => hf q hq)
  lt := fun w h k hk => own_lt h hk
end Go.Proofs.Ytccabgeeglhagaa.Stk
/- Things whose blocks hold cells: a range over a function turns its own records, which are none, and leaves them. For stages from 15 on. -/
namespace Go.Proofs.Ytccabgeeglhagaa.Stk
open Go Go.RowKit Lw Grd Lin Con Shp Sk Exa Lev
set_option linter.unusedVariables false
/-- Each block of F holds cells. -/
def Cel (F : Nat → Prop) (w : World) : Prop := ∀ k, F k → ∃ o : Obj, w.heap[k]? = some o ∧ o.isCells = true
theorem cel_mid {w : World} {g i : Nat} {Z : List Int} (h : Ord.Mid w g i Z) : ∃ o : Obj, w.heap[g]? = some o ∧ o.isCells = true := by
  obtain ⟨vs, e, h1, h2⟩ := h
  exact ⟨_, h1, rfl⟩
theorem cel_pg {w : World} {p : Addr} {F : Nat → Prop} {m n : Nat} {L : List (List Int)} (h : PG w p F m n L) : Cel F w := by
  obtain ⟨hd, b, g, cap, rfl, hb, hm, h1, h2, h3, rfl⟩ := h
  rintro k (rfl | rfl)
  · exact ⟨_, hb, rfl⟩
  · exact cel_mid hm
theorem cel_ex {w : World} {p : Addr} {F : Nat → Prop} {c : Cfg} {l : Int} {L : List Int} (h : EX w p F c l L) : Cel F w := by
  obtain ⟨hr, hok, hl0, hl1, hlk, hn1, hn8, b, gp, G, rfl, hb, hg, hGb, rfl⟩ := h
  rintro k (rfl | hk)
  · exact ⟨_, hb, rfl⟩
  · exact cel_pg hg k hk
theorem cel_sk {w : World} {p : Addr} {F : Nat → Prop} {c : Cfg} {l : Int} {L : List (List Int)} (h : SK w p F c l L) : Cel F w := by
  obtain ⟨hr, hok, hl0, hl1, b, gp, G, rfl, hb, hg, hGb, rfl⟩ := h
  rintro k (rfl | hk)
  · exact ⟨_, hb, rfl⟩
  · exact cel_pg hg k hk
theorem cel_elv {w : World} {v : Value} {F : Nat → Prop} {c : Cfg} {l : Int} {st : LS} (h : ELV w v F c l st) : Cel F w := by
  cases st with
  | A L =>
    obtain ⟨p, e, h2⟩ := h.2
    exact cel_ex h2
  | S L =>
    obtain ⟨p, e, h2⟩ := h.2
    exact cel_sk h2
theorem cel_box {w : World} {b : Nat} {e : TypeId} {vs : Array Value} (h : (boxT b e vs).I w) : Cel (boxT b e vs).F w := by
  rintro k hk
  have hk2 : k = b := hk
  subst hk2
  exact ⟨_, h, rfl⟩
theorem cel_own {w : World} {B : Nat} {e : TypeId} {hdr : Value} {vals : List Value} (h : (ownT B e hdr vals).I w) : Cel (ownT B e hdr vals).F w := by
  rintro k hk
  have h2 : w.ownsRow B e 1 hdr vals.length vals := h
  have hk2 : hdr.ownBlock = some k := hk
  rcases h2.2 with h0 | ⟨g, cap, cur, rfl, hb, hg, h3⟩
  · rw [h0.1] at hk2
    cases hk2
  · have h4 : some g = some k := hk2
    injection h4 with h4
    subst h4
    exact ⟨_, hg, rfl⟩
/-- A block that is no cells is none of a thing's. -/
theorem Thing.turned {t : Thing} {w w' : World} {row : Option Nat} (h : t.I w) (hc : Cel t.F w) (hg : w.grownBy w' row) (hr : ∀ r, row = some r → ∃ o : Obj, w.heap[r]? = some o ∧ o.isCells = false) : t.I w' ∧ Cel t.F w' := by
  have hne : ∀ k, t.F k → ¬ row = some k := fun k hk e => by
    obtain ⟨o, h1, h2⟩ := hc k hk
    obtain ⟨o', h3, h4⟩ := hr k e
    rw [h1] at h3
    injection h3 with h3
    subst h3
    rw [h2] at h4
    cases h4
  refine ⟨t.keep w w' (fun k => row = some k) h ((Kept.refl _ w).grown hg (fun q e => .inl e)) hne, fun k hk => ?_⟩
  obtain ⟨o, h1, h2⟩ := hc k hk
  exact ⟨o, (hg.block k (t.lt w h k hk) (fun e => hne k hk e.symm)).trans h1, h2⟩
/-- Things held, each in blocks that hold cells. -/
def HoldC (F0 : Nat → Prop) (w0 w : World) (ts : List Thing) : Prop := Hold F0 w0 w ts ∧ ∀ t ∈ ts, Cel t.F w
theorem HoldC.own {β : Type} {F0 : Nat → Prop} {w0 : World} {B : Nat} (hB : w0.heap.size ≤ B) (ts : β → List Thing) : OwnFrom B (fun s W => HoldC F0 w0 W (ts s)) := by
  intro s W W' row h hg hr
  have hr2 : ∀ r, row = some r → ∃ o : Obj, W.heap[r]? = some o ∧ o.isCells = false := fun r e => (hr r e).2
  refine ⟨⟨Kept.grown h.1.1 hg (fun q e => .inr (Nat.le_trans hB (hr q e).1)), fun t ht => ⟨(Thing.turned (h.1.2.1 t ht).1 (h.2 t ht) hg hr2).1, (h.1.2.1 t ht).2⟩, h.1.2.2⟩, fun t ht => (Thing.turned (h.1.2.1 t ht).1 (h.2 t ht) hg hr2).2⟩
theorem HoldC.up {F0 : Nat → Prop} {w0 w w' : World} {ts : List Thing} (h : HoldC F0 w0 w ts) (hb : Below w.heap.size w w') : HoldC F0 w0 w' ts := by
  refine ⟨h.1.up hb, fun t ht k hk => ?_⟩
  obtain ⟨o, h1, h2⟩ := h.2 t ht k hk
  exact ⟨o, (hb.5 k (t.lt w (h.1.2.1 t ht).1 k hk)).trans h1, h2⟩
theorem HoldC.i {F0 : Nat → Prop} {w0 w : World} {ts : List Thing} (h : HoldC F0 w0 w ts) {t : Thing} (ht : t ∈ ts) : t.I w := h.1.i ht
theorem HoldC.push {F0 : Nat → Prop} {w0 w w' : World} {ts : List Thing} (h : HoldC F0 w0 w ts) (t : Thing) (hb : Below w.heap.size w w') (ht : t.I w') (hn : ∀ k, t.F k → w.heap.size ≤ k) (hc : Cel t.F w') : HoldC F0 w0 w' (t :: ts) := by
  refine ⟨h.1.push t hb ht hn, fun u hu => ?_⟩
  rcases List.mem_cons.1 hu with rfl | hu
  · exact hc
  · exact (h.up hb).2 u hu
/-- One of them is turned by a call. -/
theorem HoldC.turn {F0 : Nat → Prop} {w0 w w' : World} {fs : List Thing} {t : Thing} {ts : List Thing} (h : HoldC F0 w0 w (fs ++ t :: ts)) (t' : Thing) (ht : t'.I w') (hk : Kept t.F w w') (hF : ∀ k, t'.F k → t.F k ∨ w.heap.size ≤ k) (hc : Cel t'.F w') : HoldC F0 w0 w' (fs ++ t' :: ts) := by
  refine ⟨h.1.turn t' ht hk hF, fun u hu => ?_⟩
  have hap := Asun.append.1 h.1.2.2
  have hoth : u ∈ fs ∨ u ∈ ts → Cel u.F w' := by
    intro hu2 k h1
    have hin : u ∈ fs ++ t :: ts := by
      rcases hu2 with g | g <;> simp [g]
    obtain ⟨o, h2, h3⟩ := h.2 u hin k h1
    refine ⟨o, (hk.block k (u.lt w (h.i hin) k h1) (fun h4 => ?_)).trans h2, h3⟩
    rcases hu2 with g | g
    · exact hap.2.2 u g t (by simp) k h1 h4
    · exact hap.2.1.1 u g k h4 h1
  rcases List.mem_append.1 hu with g | g
  · exact hoth (.inl g)
  · rcases List.mem_cons.1 g with rfl | g
    · exact hc
    · exact hoth (.inr g)
theorem HoldC.set {F0 : Nat → Prop} {w0 w w' : World} {pre ts post : List Thing} {j : Nat} {t : Thing} (h : HoldC F0 w0 w (pre ++ (ts ++ post))) (hj : ts[j]? = some t) (t' : Thing) (ht : t'.I w') (hk : Kept t.F w w') (hF : ∀ k, t'.F k → t.F k ∨ w.heap.size ≤ k) (hc : Cel t'.F w') : HoldC F0 w0 w' (pre ++ (ts.set j t' ++ post)) := by
  have e1 := set_split hj
  have e2 := set_at (t' := t') hj
  rw [e2]
  rw [e1] at h
  have e3 : ∀ t : Thing, pre ++ ((ts.take j ++ t :: ts.drop (j + 1)) ++ post) = (pre ++ ts.take j) ++ t :: (ts.drop (j + 1) ++ post) := by simp
  rw [e3] at h ⊢
  exact h.turn t' ht hk hF hc
/-- What is turned is apart from what is beside it. -/
theorem HoldC.apart {F0 : Nat → Prop} {w0 w : World} {us gs ts : List Thing} (h : HoldC F0 w0 w (us ++ (gs ++ ts))) {t : Thing} (ht : t ∈ ts) {u : Thing} (hu : u ∈ gs) {k : Nat} (hk : u.F k) : ¬ t.F k :=
  ((Asun.append.1 (Asun.append.1 h.1.2.2).2.1).2.2 u hu t ht k hk)
/-- What a call that turns a thing leaves: all that is no cells. -/
theorem others_of {F : Nat → Prop} {w w' : World} (hk : Kept F w w') (hc : Cel F w) : KeepsOthers w w' :=
  ⟨hk.size, fun k o h1 h2 => by
    refine (hk.block k (size_of_heap h1) (fun h3 => ?_)).trans h1
    obtain ⟨o', h4, h5⟩ := hc k h3
    rw [h1] at h4
    injection h4 with h4
    subst h4
    rw [h2] at h5
    cases h5⟩
/-- What a round over levels keeps: the blocks that the iterator reads. -/
structure KeptG (G : Nat → Prop) (w w' : World) : Prop where
  size : w.heap.size ≤ w'.heap.size
  block : ∀ k, G k → w'.heap[k]? = w.heap[k]?
theorem KeptG.refl (G : Nat → Prop) (w : World) : KeptG G w w := ⟨Nat.le_refl _, fun _ _ => rfl⟩
theorem KeptG.trans {G : Nat → Prop} {x y z : World} (h : KeptG G x y) (k : KeptG G y z) : KeptG G x z := ⟨Nat.le_trans h.size k.size, fun i h1 => (k.block i h1).trans (h.block i h1)⟩
theorem KeptG.of_below {G : Nat → Prop} {w w' : World} (hG : ∀ k, G k → k < w.heap.size) (h : Below w.heap.size w w') : KeptG G w w' := ⟨h.4, fun k hk => h.5 k (hG k hk)⟩
theorem KeptG.of_kept {G F : Nat → Prop} {w w' : World} (hG : ∀ k, G k → k < w.heap.size) (h : Kept F w w') (hf : ∀ k, G k → ¬ F k) : KeptG G w w' := ⟨h.size, fun k hk => h.block k (hG k hk) (hf k hk)⟩
theorem KeptG.put {m : Nat} {G : Nat → Prop} (hm : ∀ k, G k → k < m) (W : World) (l : Nat) (o o' : Obj) (hl : m ≤ l) (h1 : W.heap[l]? = some o) (h2 : o.isCells = false) (h3 : o.isWalk = false) : KeptG G W (W.putObj l o') :=
  ⟨by simp, fun k hk => World.putObj_heap_other (by have := hm k hk; omega)⟩
theorem KeptG.cell {G : Nat → Prop} {w w' : World} (h : KeptG G w w') {a : Addr} {v : Value} (hc : w.cell? a = some v) (ha : G a.block) : w'.cell? a = some v := by
  rw [World.cell?_of_block (h.block a.block ha), hc]
end Go.Proofs.Ytccabgeeglhagaa.Stk
/- What a stack has, in numbers: all levels updated, the first error of all, the levels that were fed. For stages from 15 on. -/
namespace Go.Proofs.Ytccabgeeglhagaa.Stk
open Go Go.RowKit Lw Grd Lin Con Shp Sk Exa Lev
set_option linter.unusedVariables false
/-- The key to which a key belongs at a level. -/
def upK (k : Int) (n : Nat) : Int := k / ((2 ^ n : Nat) : Int)
/-- The first error of all levels from the n-th on. -/
def ers (c : Cfg) (k d : Int) : Nat → List LS → Int
  | _, [] => 0
  | n, st :: sts => if lsCode c n st (upK k n) d = 0 then ers c k d (n + 1) sts else lsCode c n st (upK k n) d
/-- All levels from the n-th on, updated. -/
def rss (c : Cfg) (k d : Int) : Nat → List LS → List LS
  | _, [] => []
  | n, st :: sts => lsRes c n st (upK k n) d :: rss c k d (n + 1) sts
theorem rss_len (c : Cfg) (k d : Int) : ∀ (n : Nat) (sts : List LS), (rss c k d n sts).length = sts.length
  | _, [] => rfl
  | n, st :: sts => by
    show (rss c k d (n + 1) sts).length + 1 = sts.length + 1
    rw [rss_len c k d (n + 1) sts]
theorem rss_get (c : Cfg) (k d : Int) : ∀ (n : Nat) (sts : List LS) (j : Nat) (st : LS), sts[j]? = some st → (rss c k d n sts)[j]? = some (lsRes c ((n + j : Nat) : Int) st (upK k (n + j)) d)
  | n, [], j, st, h => by simp at h
  | n, s :: sts, 0, st, h => by
    simp at h
    subst h
    rfl
  | n, s :: sts, j + 1, st, h => by
    have ih := rss_get c k d (n + 1) sts j st (by simpa using h)
    have e : n + 1 + j = n + (j + 1) := by omega
    rw [e] at ih
    simpa [rss] using ih
theorem ers_first (c : Cfg) (k d : Int) : ∀ (n : Nat) (sts : List LS) (j : Nat) (st : LS), (∀ (i : Nat) (s : LS), i < j → sts[i]? = some s → lsCode c ((n + i : Nat) : Int) s (upK k (n + i)) d = 0) → sts[j]? = some st → ¬ lsCode c ((n + j : Nat) : Int) st (upK k (n + j)) d = 0 → ers c k d n sts = lsCode c ((n + j : Nat) : Int) st (upK k (n + j)) d
  | n, [], j, st, _, h, _ => by simp at h
  | n, s :: sts, 0, st, _, h, hne => by
    simp at h
    subst h
    exact if_neg hne
  | n, s :: sts, j + 1, st, ha, h, hne => by
    have h0 : lsCode c (n : Int) s (upK k n) d = 0 := ha 0 s (by omega) rfl
    have e : n + 1 + j = n + (j + 1) := by omega
    have ih := ers_first c k d (n + 1) sts j st (fun i q hi hq => by
      have h1 := ha (i + 1) q (by omega) (by simpa using hq)
      have e2 : n + 1 + i = n + (i + 1) := by omega
      rw [e2]
      exact h1) (by simpa using h) (by rw [e]; exact hne)
    rw [e] at ih
    show (if lsCode c n s (upK k n) d = 0 then ers c k d (n + 1) sts else lsCode c n s (upK k n) d) = _
    rw [if_pos h0]
    exact ih
theorem ers_none (c : Cfg) (k d : Int) : ∀ (n : Nat) (sts : List LS), (∀ (i : Nat) (s : LS), sts[i]? = some s → lsCode c ((n + i : Nat) : Int) s (upK k (n + i)) d = 0) → ers c k d n sts = 0
  | n, [], _ => rfl
  | n, s :: sts, ha => by
    have h0 : lsCode c (n : Int) s (upK k n) d = 0 := ha 0 s rfl
    show (if lsCode c n s (upK k n) d = 0 then ers c k d (n + 1) sts else lsCode c n s (upK k n) d) = _
    rw [if_pos h0]
    refine ers_none c k d (n + 1) sts (fun i q hq => ?_)
    have h1 := ha (i + 1) q (by simpa using hq)
    have e2 : n + 1 + i = n + (i + 1) := by omega
    rw [e2]
    exact h1
theorem ers_ok (c : Cfg) (k d : Int) : ∀ (n : Nat) (sts : List LS), ers c k d n sts = 0 → ∀ (i : Nat) (s : LS), sts[i]? = some s → lsCode c ((n + i : Nat) : Int) s (upK k (n + i)) d = 0
  | n, [], _, i, s, h => by simp at h
  | n, s :: sts, he, i, q, h => by
    by_cases h0 : lsCode c n s (upK k n) d = 0
    · have he2 : ers c k d (n + 1) sts = 0 := by
        have h1 : ers c k d n (s :: sts) = ers c k d (n + 1) sts := if_pos h0
        rw [← h1]
        exact he
      cases i with
      | zero =>
        simp at h
        subst h
        exact h0
      | succ i =>
        have ih := ers_ok c k d (n + 1) sts he2 i q (by simpa using h)
        have e2 : n + 1 + i = n + (i + 1) := by omega
        rw [e2] at ih
        exact ih
    · have h1 : ers c k d n (s :: sts) = lsCode c n s (upK k n) d := if_neg h0
      rw [he] at h1
      exact absurd h1.symm h0
/-- What Update answers, and what it leaves. -/
def sucode (c : Cfg) (sts : List LS) (k d : Int) : Int := if keys c 0 ≤ k then 2 else if c.md = 2 ∧ d < 0 then 3 else ers c k d 0 sts
def sures (c : Cfg) (sts : List LS) (k d : Int) : List LS := if sucode c sts k d = 0 then rss c k d 0 sts else sts
/-- Updates as they reach a level. -/
def upN (us : Ups) (n : Nat) : Ups := us.map (fun u => (upK u.1 n, u.2))
theorem upN_app (us vs : Ups) (n : Nat) : upN (us ++ vs) n = upN us n ++ upN vs n := List.map_append
theorem upN_len (us : Ups) (n : Nat) : (upN us n).length = us.length := List.length_map _
theorem upK_keys {c : Cfg} (hr : IsRight c) {k : Int} {n : Nat} (h0 : 0 ≤ k) (hk : k < keys c 0) (hn : (n : Int) ≤ c.bt) : 0 ≤ upK k n ∧ upK k n < keys c n := by
  have hp : (0 : Int) < ((2 ^ n : Nat) : Int) := by
    have := Nat.one_le_two_pow (n := n)
    omega
  have hb := hr.1
  have e0 : keys c 0 = 2 ^ (c.bt - 0).toNat := keys_yes hr (by omega) (by omega)
  have e1 : keys c n = 2 ^ (c.bt - n).toNat := keys_yes hr (by omega) hn
  refine ⟨Int.ediv_nonneg h0 (Int.le_of_lt hp), ?_⟩
  unfold upK
  rw [Int.ediv_lt_iff_lt_mul hp, e1]
  have e2 : (2 : Int) ^ (c.bt - n).toNat * ((2 ^ n : Nat) : Int) = 2 ^ (c.bt - 0).toNat := by
    have e3 : (c.bt - 0).toNat = (c.bt - n).toNat + n := by omega
    rw [e3, Int.pow_add]
    simp
  rw [e2, ← e0]
  exact hk
theorem upN_in {c : Cfg} (hr : IsRight c) {us : Ups} (h : UpsIn c 0 us) {n : Nat} (hn : (n : Int) ≤ c.bt) : UpsIn c n (upN us n) := by
  refine ⟨fun u hu => ?_, fun hm u hu => ?_⟩
  · obtain ⟨v, hv, rfl⟩ := List.mem_map.1 hu
    have h1 := h.1 v hv
    have h2 := upK_keys hr h1.1 h1.2.1 hn
    exact ⟨h2.1, h2.2, h1.2.2⟩
  · obtain ⟨v, hv, rfl⟩ := List.mem_map.1 hu
    exact h.2 hm v hv
/-- A level that was fed. -/
def stOf (c : Cfg) (us : Ups) (n : Nat) : LS := if exactB c n = true then .A (sums (keys c n).toNat (upN us n)) else .S (cells c n (upN us n))
theorem stOf_nil (c : Cfg) (n : Nat) : stOf c [] n = lsZero c n := by
  unfold stOf lsZero upN
  split
  · rw [List.map_nil, sums_nil]
  · rw [List.map_nil, cells_nil]
/-- In the midst of sixty updates: the next one reaches the level. -/
theorem stOf_step {c : Cfg} (hr : IsRight c) {us : Ups} (h : UpsIn c 0 us) (hl : us.length ≤ 60) {u : Int × Int} (hu : UpsIn c 0 [u]) {n : Nat} (hn : (n : Int) ≤ c.bt) :
    lsCode c n (stOf c us n) (upK u.1 n) u.2 = 0 ∧ lsRes c n (stOf c us n) (upK u.1 n) u.2 = stOf c (us ++ [u]) n := by
  have h1 := upN_in hr h hn
  have h2 := upN_in hr hu hn
  have hu1 := h2.1 (upK u.1 n, u.2) (by simp [upN])
  have hl2 : (upN us n).length ≤ 60 := by rw [upN_len]; exact hl
  unfold stOf
  rw [upN_app]
  by_cases hx : exactB c n = true
  · rw [if_pos hx, if_pos hx]
    have hk : ((keys c n).toNat : Int) = keys c n := Int.toNat_of_nonneg (by omega)
    have hs := sums_step (md := c.md) (K := (keys c n).toNat) (us := upN us n) (u := (upK u.1 n, u.2)) hu1.1 (by rw [hk]; exact hu1.2.1) hl2 (fun v hv => by
      rcases List.mem_append.1 hv with h3 | h3
      · exact ⟨(h1.1 v h3).2.2.1, (h1.1 v h3).2.2.2⟩
      · rw [List.mem_singleton.1 h3]
        exact ⟨hu1.2.2.1, hu1.2.2.2⟩) (fun hm => h2.2 hm (upK u.1 n, u.2) (by simp [upN]))
    refine ⟨hs.1, ?_⟩
    show LS.A (exRes c.md _ _ _) = _
    rw [hs.2]
    rfl
  · rw [if_neg hx, if_neg hx]
    have hs := up_ok hr h1 hl2 (u := (upK u.1 n, u.2)) h2
    refine ⟨hs.1, ?_⟩
    show LS.S (upRes c n _ _ _) = _
    rw [hs.2]
    rfl
/-- All levels of a stack that was fed. -/
def stsOf (c : Cfg) (us : Ups) : List LS := (List.range (c.bt.toNat + 1)).map (stOf c us)
theorem stsOf_len (c : Cfg) (us : Ups) : (stsOf c us).length = c.bt.toNat + 1 := by unfold stsOf; simp
theorem stsOf_get {c : Cfg} {us : Ups} {n : Nat} (h : n < c.bt.toNat + 1) : (stsOf c us)[n]? = some (stOf c us n) := by
  unfold stsOf
  rw [List.getElem?_map, List.getElem?_range h]
  rfl
theorem stsOf_step {c : Cfg} (hr : IsRight c) {us : Ups} (h : UpsIn c 0 us) (hl : us.length ≤ 60) {u : Int × Int} (hu : UpsIn c 0 [u]) :
    sucode c (stsOf c us) u.1 u.2 = 0 ∧ sures c (stsOf c us) u.1 u.2 = stsOf c (us ++ [u]) := by
  have hb := hr.1
  have hu1 := hu.1 u (by simp)
  have e1 : ers c u.1 u.2 0 (stsOf c us) = 0 := by
    refine ers_none c u.1 u.2 0 _ (fun i s hi => ?_)
    have hi2 := (List.getElem?_eq_some_iff.1 hi).1
    rw [stsOf_len] at hi2
    rw [stsOf_get hi2] at hi
    injection hi with hi
    rw [Nat.zero_add, ← hi]
    exact (stOf_step hr h hl hu (by omega)).1
  have hk : ¬ keys c 0 ≤ u.1 := by omega
  have hm : ¬ (c.md = 2 ∧ u.2 < 0) := fun g => by have := hu.2 g.1 u (by simp); omega
  have e2 : sucode c (stsOf c us) u.1 u.2 = 0 := by
    unfold sucode
    rw [if_neg hk, if_neg hm]
    exact e1
  refine ⟨e2, ?_⟩
  unfold sures
  rw [if_pos e2]
  apply List.ext_getElem?
  intro j
  by_cases hj : j < c.bt.toNat + 1
  · rw [rss_get c u.1 u.2 0 _ j _ (stsOf_get hj), stsOf_get hj, Nat.zero_add]
    rw [(stOf_step hr h hl hu (by omega)).2]
  · rw [List.getElem?_eq_none (by rw [rss_len, stsOf_len]; omega), List.getElem?_eq_none (by rw [stsOf_len]; omega)]
end Go.Proofs.Ytccabgeeglhagaa.Stk
/- Appends of rows of any values, nil or not, onto a row of one's own; what lies in rows of updates. Printed by wip/gen/stk6.py. -/
namespace Go.Proofs.Ytccabgeeglhagaa.Stk
open Go Go.RowKit Lw Grd Lin Con Shp Sk Exa Lev
set_option linter.unusedVariables false
set_option linter.unusedSimpArgs false
/-- The values that lie at A. -/
def RdV (w : World) (A : Option Addr) (vs : List Value) : Prop := ∀ (j : Nat) (u : Value), vs[j]? = some u → ∃ ad, A = some ad ∧ w.cell? (ad.add j) = some u
theorem RdV.up {w w' : World} {A : Option Addr} {vs : List Value} (h : RdV w A vs) (hb : Below w.heap.size w w') : RdV w' A vs := fun j u hj => by
  obtain ⟨ad, e, hc⟩ := h j u hj
  exact ⟨ad, e, cell_up hc hb⟩
theorem RdV.nil (w : World) (A : Option Addr) : RdV w A [] := fun j u hj => by simp at hj
theorem RdV.take {w : World} {A : Option Addr} {vs : List Value} (h : RdV w A vs) (k : Nat) : RdV w A (vs.take k) := fun j u hj => by
  rw [List.getElem?_take] at hj
  split at hj
  · exact h j u hj
  · cases hj
theorem RdV.drop {w : World} {ad : Addr} {vs : List Value} (h : RdV w (some ad) vs) (k : Nat) : RdV w (some (ad.add k)) (vs.drop k) := fun j u hj => by
  rw [List.getElem?_drop] at hj
  obtain ⟨ad2, e, hc⟩ := h _ u hj
  injection e with e
  subst e
  exact ⟨_, rfl, by rw [add_add']; exact hc⟩
theorem appv_wp {P : Program} {w : World} {o : Oper} {a : Act} {K : Act → World → Prop} {Q : Exit → Act → World → Prop} (s x : Operand) (t : TypeId)
    (ho : o.op = .call { callee := .builtin .append, args := #[s, x], argTypes := #[t, t] })
    (base : Nat) (e : TypeId) (i : TypeInfo) (z : Value) (size bytes : Nat) (ht : P.underlying t = some (.slice e)) (hi : P.info? e = some i) (hz : i.zero = some z) (hsize : i.size = size) (hby : i.bytes = bytes) (hzs : z.cells.size = size) (hsz : 0 < size)
    (v : Value) (n : Nat) (xs : List Value) (hs : a.eval s = v) (hown : w.ownsRow base e size v n xs) (hv : v ≠ .slice none 0 0)
    (A : Option Addr) (m c : Nat) (news : List Value) (hx : a.eval x = .slice A m c) (hA : A = none → m = 0 ∧ c = 0) (hl : news.length = m * size) (hr : RdV w A news) (h1 : ∀ u ∈ news, u.oneCell' = true) (h63 : n + m ≤ maxLen) (hbytes : (n + m) * bytes ≤ 140737488355328) (hbase : base ≤ w.heap.size)
    (h : ∀ A' cap' w', w'.ownsRow base e size (.slice (some A') (n + m) cap') (n + m) (xs ++ news) → w.grownBy w' v.ownBlock → K (a.put o.dst (.slice (some A') (n + m) cap')) w') :
    o.wp P a w K Q := by
  have hform : ∀ {w : World} {v : Value} {n : Nat} {xs : List Value}, w.ownsRow base e size v n xs → v ≠ .slice none 0 0 → ∃ A' cap', v = .slice (some A') n cap' := fun h hne => by
    rcases h.2 with ⟨h2, _⟩ | ⟨g, cap, cur, h2, _⟩
    · exact absurd h2 hne
    · exact ⟨_, _, h2⟩
  cases A with
  | none =>
    obtain ⟨rfl, rfl⟩ := hA rfl
    obtain rfl : news = [] := List.eq_nil_of_length_eq_zero (by simpa using hl)
    obtain ⟨A', cap', hv'⟩ := hform hown hv
    have hrun := run_append_owned_none (P := P) (w := w) base t o.type e i size ht hi v n _ hown
    have hh := h A' cap' w (by rw [List.append_nil]; have h5 := hown; rw [hv'] at h5; exact h5) ⟨rfl, rfl, rfl, Nat.le_refl _, fun _ _ _ => rfl⟩
    unfold Oper.wp
    simp [execOp, ho, resolve, invoke, builtin, hs, hx, hrun, Result.andThen]
    rw [hv']
    exact hh
  | some ad =>
    refine wp_append_own w s x t ho base e i z size bytes ht hi hz hsize hby hzs hsz v n _ hs hown ad m c news hx hl (fun j u hj => by obtain ⟨a2, e2, hc⟩ := hr j u hj; injection e2 with e2; subst e2; exact hc) h1 h63 hbytes hbase ?_
    intro v' w' hown2 hgrow hnil
    obtain ⟨A', cap', rfl⟩ := hform hown2 (fun e2 => hv (hnil.1 e2).1)
    exact h A' cap' w' hown2 hgrow
theorem appv_step {P : Program} {w : World} {ops : Array Oper} {o : Oper} {a : Act} {K : Act → World → Prop} {Q : Exit → Act → World → Prop} {E : Prop} (hgd : o.guard = none) (s x : Operand) (t : TypeId)
    (ho : o.op = .call { callee := .builtin .append, args := #[s, x], argTypes := #[t, t] })
    (base : Nat) (e : TypeId) (i : TypeInfo) (z : Value) (size bytes : Nat) (ht : P.underlying t = some (.slice e)) (hi : P.info? e = some i) (hz : i.zero = some z) (hsize : i.size = size) (hby : i.bytes = bytes) (hzs : z.cells.size = size) (hsz : 0 < size)
    (v : Value) (n : Nat) (xs : List Value) (hs : a.eval s = v) (hown : w.ownsRow base e size v n xs) (hv : v ≠ .slice none 0 0)
    (A : Option Addr) (m c : Nat) (news : List Value) (hx : a.eval x = .slice A m c) (hA : A = none → m = 0 ∧ c = 0) (hl : news.length = m * size) (hr : RdV w A news) (h1 : ∀ u ∈ news, u.oneCell' = true) (h63 : n + m ≤ maxLen) (hbytes : (n + m) * bytes ≤ 140737488355328) (hbase : base ≤ w.heap.size)
    (h : ∀ A' cap' w', w'.ownsRow base e size (.slice (some A') (n + m) cap') (n + m) (xs ++ news) → w.grownBy w' v.ownBlock → K (a.put o.dst (.slice (some A') (n + m) cap')) w') :
    if Region.wanted o (yielded ops a.tmps) = true then Oper.wp P o a w K Q else E := by
  rw [if_pos (by simp [Region.wanted, hgd])]
  exact appv_wp s x t ho base e i z size bytes ht hi hz hsize hby hzs hsz v n xs hs hown hv A m c news hx hA hl hr h1 h63 hbytes hbase h
theorem flatU_each {us : Ups} : ∀ (j : Nat) (u : Value), (flatU us)[j]? = some u → ∃ q, us[j / 2]? = some q ∧ ((j % 2 = 0 ∧ u = .int .u64 q.1) ∨ (j % 2 = 1 ∧ u = .int .i64 q.2)) := by
  intro j u hu
  have hl := (List.getElem?_eq_some_iff.1 hu).1
  rw [flatU_len] at hl
  obtain ⟨q, hq⟩ : ∃ q, us[j / 2]? = some q := ⟨_, List.getElem?_eq_getElem (by omega)⟩
  have h2 := flatU_get hq
  refine ⟨q, hq, ?_⟩
  rcases Nat.mod_two_eq_zero_or_one j with h | h
  · left
    have e : j / 2 * 2 = j := by omega
    rw [e, hu] at h2
    exact ⟨h, Option.some.inj h2.1⟩
  · right
    have e : j / 2 * 2 + 1 = j := by omega
    rw [e, hu] at h2
    exact ⟨h, Option.some.inj h2.2⟩
theorem flatU_one (us : Ups) : ∀ u ∈ flatU us, u.oneCell' = true := by
  intro u hu
  obtain ⟨j, hj⟩ := List.getElem?_of_mem hu
  obtain ⟨q, _, ⟨_, rfl⟩ | ⟨_, rfl⟩⟩ := flatU_each j u hj <;> rfl
theorem upd_rdv {w : World} {A : Option Addr} {n c : Nat} {us : Ups} (h : UpdV w A n c us) : RdV w A (flatU us) := by
  intro j u hj
  obtain ⟨q, hq, hc⟩ := flatU_each j u hj
  obtain ⟨a, e, h1, h2, _⟩ := h.each _ q hq
  refine ⟨a, e, ?_⟩
  rcases hc with ⟨g, rfl⟩ | ⟨g, rfl⟩
  · rw [show j / 2 * 2 = j by omega] at h1; exact h1
  · rw [show j / 2 * 2 + 1 = j by omega] at h2; exact h2
theorem flatU_cut : ∀ (us : Ups) (k : Nat), flatU (us.take k) = (flatU us).take (k * 2) ∧ flatU (us.drop k) = (flatU us).drop (k * 2) := by
  intro us k
  have h1 : flatU us = flatU (us.take k) ++ flatU (us.drop k) := by
    unfold flatU
    rw [← List.flatMap_append, List.take_append_drop]
  have hl : (flatU (us.take k)).length = min k us.length * 2 := by rw [flatU_len, List.length_take]; omega
  by_cases hk : k ≤ us.length
  · rw [Nat.min_eq_left hk] at hl
    refine ⟨?_, ?_⟩
    · rw [h1, ← hl, List.take_left]
    · rw [h1, ← hl, List.drop_left]
  · have h2 : us.take k = us := List.take_of_length_le (by omega)
    have h3 : us.drop k = [] := List.drop_of_length_le (by omega)
    rw [h2, h3, List.take_of_length_le (by rw [flatU_len]; omega), List.drop_of_length_le (by rw [flatU_len]; omega)]
    exact ⟨rfl, rfl⟩
end Go.Proofs.Ytccabgeeglhagaa.Stk
/- The document's Cut of layer 15. Printed by wip/gen/stk.py. -/
namespace Go.Proofs.Ytccabgeeglhagaa.Stk
open Go Go.RowKit Lw Grd Lin Con Shp Sk Exa Lev
set_option linter.unusedVariables false
set_option linter.unusedSimpArgs false
set_option maxRecDepth 100000 in
set_option maxHeartbeats 4000000 in
theorem rcut15_any (c : Cfg) (k d : Int) (w : World) (h : c.Ok) (k0 : 0 ≤ k) (k1 : k ≤ 18446744073709551615) (d0 : -9223372036854775808 ≤ d) (d1 : d ≤ 9223372036854775807) (hK : 1 ≤ keys c 0) :
    Calls Try.prog 13 #[.agg #[.int .i64 c.bt, .int .i64 c.rw, .int .i64 c.wd, .int .i64 c.md, .int .u64 c.sd], .agg #[.int .u64 k, .int .i64 d]] w fun e w' => e = .returned (.agg #[.int .u64 (cutU c 0 (k, d)).1, .int .i64 (cutU c 0 (k, d)).2]) ∧ Below w.heap.size w w' := by
  have HO := Lib.hid h
  obtain ⟨K, hKK⟩ : ∃ K, keys c 0 = K := ⟨_, rfl⟩
  have CK := Lib.hid (fun w => rkeys_any c 0 w h (by omega) (by omega))
  rw [hKK] at CK hK
  obtain ⟨r1, r2, r3⟩ := rem_key k K k0 k1 hK
  have hKn : ¬ K = 0 := by omega
  have h1 := tmod_bd d
  obtain ⟨t, ht⟩ : ∃ t, Int.tmod d 1099511627776 = t := ⟨_, rfl⟩
  have hdv : (cutU c 0 (k, d)).2 = if c.md = 2 ∧ t < 0 then -t else t := by
    unfold cutU dv
    simp only [decide_eq_true_eq, ht]
    split <;> split <;> first | rfl | omega
  have hck : (cutU c 0 (k, d)).1 = k % K := by unfold cutU; rw [hKK]
  obtain ⟨R, hR⟩ : ∃ R, k % K = R := ⟨_, rfl⟩
  rw [hR] at r1 r2 r3 hck
  rw [hck]
  rw [ht] at h1
  obtain ⟨D, hD⟩ : ∃ D, (cutU c 0 (k, d)).2 = D := ⟨_, rfl⟩
  rw [hD] at hdv ⊢
  clear hKK hck hR hD h
  have go : ∀ b : Bool, (c.md == 2) = b → ∀ (s : Bool), decide (t < 0) = s → D = (if b = true ∧ s = true then -t else t) → Calls Try.prog 13 #[.agg #[.int .i64 c.bt, .int .i64 c.rw, .int .i64 c.wd, .int .i64 c.md, .int .u64 c.sd], .agg #[.int .u64 k, .int .i64 d]] w fun e w' => e = .returned (.agg #[.int .u64 R, .int .i64 D]) ∧ Below w.heap.size w w' := by
    clear hdv
    intro b hb s hs hd
    have HD := Lib.hid hd
    clear hd
    have hts : (s = true ∧ t < 0 ∧ t ≤ -t) ∨ (s = false ∧ 0 ≤ t ∧ -t ≤ t) := by
      cases s with
      | true => left; have := of_decide_eq_true hs; exact ⟨rfl, this, by omega⟩
      | false => right; have := of_decide_eq_false hs; exact ⟨rfl, by omega, by omega⟩
    clear hs
    cases b with
    | false =>
      go_enter Try.func13, Try.ntmps13
      go_wp2
      go_region_held3 (fun w' => w'.cell? ⟨w.heap.size, 0, none⟩ = some (.int .i64 c.bt) ∧ w'.cell? ⟨w.heap.size, 1, none⟩ = some (.int .i64 c.rw) ∧ w'.cell? ⟨w.heap.size, 2, none⟩ = some (.int .i64 c.wd) ∧ w'.cell? ⟨w.heap.size, 3, none⟩ = some (.int .i64 c.md) ∧ w'.cell? ⟨w.heap.size, 4, none⟩ = some (.int .u64 c.sd) ∧ w'.cell? ⟨w.heap.size + 1, 0, none⟩ = some (.int .u64 k)) (simp [go_sem]) (first | (go_at_call 12; (with_reducible refine (CK.out _).mono ?_); rintro e w' ⟨rfl, hb⟩; obtain ⟨bs, dd, rfl⟩ := below_grow hb; clear hb))
      go_wp2
      go_returns
      exact ⟨by rw [HD.out]; rfl, (by repeat' (first | (with_reducible exact Below.refl _ _) | (with_reducible assumption) | (with_reducible refine below_over ?_ _ _) | (with_reducible refine Lw.below_alloc ?_ _) | (with_reducible refine Below.drew ?_) | (with_reducible refine below_drewN ?_ _) | (with_reducible refine Below.setCell ?_ ?_ _) | go_size))⟩
    | true =>
      rcases hts with ⟨rfl, ht0, ht1⟩ | ⟨rfl, ht0, ht1⟩
      · skip
        go_enter Try.func13, Try.ntmps13
        go_wp2
        go_region_held3 (fun w' => w'.cell? ⟨w.heap.size, 0, none⟩ = some (.int .i64 c.bt) ∧ w'.cell? ⟨w.heap.size, 1, none⟩ = some (.int .i64 c.rw) ∧ w'.cell? ⟨w.heap.size, 2, none⟩ = some (.int .i64 c.wd) ∧ w'.cell? ⟨w.heap.size, 3, none⟩ = some (.int .i64 c.md) ∧ w'.cell? ⟨w.heap.size, 4, none⟩ = some (.int .u64 c.sd) ∧ w'.cell? ⟨w.heap.size + 1, 0, none⟩ = some (.int .u64 k)) (simp [go_sem]) (first | (go_at_call 12; (with_reducible refine (CK.out _).mono ?_); rintro e w' ⟨rfl, hb⟩; obtain ⟨bs, dd, rfl⟩ := below_grow hb; clear hb))
        go_wp2
        go_returns
        exact ⟨by rw [HD.out]; rfl, (by repeat' (first | (with_reducible exact Below.refl _ _) | (with_reducible assumption) | (with_reducible refine below_over ?_ _ _) | (with_reducible refine Lw.below_alloc ?_ _) | (with_reducible refine Below.drew ?_) | (with_reducible refine below_drewN ?_ _) | (with_reducible refine Below.setCell ?_ ?_ _) | go_size))⟩
      · skip
        go_enter Try.func13, Try.ntmps13
        go_wp2
        go_region_held3 (fun w' => w'.cell? ⟨w.heap.size, 0, none⟩ = some (.int .i64 c.bt) ∧ w'.cell? ⟨w.heap.size, 1, none⟩ = some (.int .i64 c.rw) ∧ w'.cell? ⟨w.heap.size, 2, none⟩ = some (.int .i64 c.wd) ∧ w'.cell? ⟨w.heap.size, 3, none⟩ = some (.int .i64 c.md) ∧ w'.cell? ⟨w.heap.size, 4, none⟩ = some (.int .u64 c.sd) ∧ w'.cell? ⟨w.heap.size + 1, 0, none⟩ = some (.int .u64 k)) (simp [go_sem]) (first | (go_at_call 12; (with_reducible refine (CK.out _).mono ?_); rintro e w' ⟨rfl, hb⟩; obtain ⟨bs, dd, rfl⟩ := below_grow hb; clear hb))
        go_wp2
        go_returns
        exact ⟨by rw [HD.out]; rfl, (by repeat' (first | (with_reducible exact Below.refl _ _) | (with_reducible assumption) | (with_reducible refine below_over ?_ _ _) | (with_reducible refine Lw.below_alloc ?_ _) | (with_reducible refine Below.drew ?_) | (with_reducible refine below_drewN ?_ _) | (with_reducible refine Below.setCell ?_ ?_ _) | go_size))⟩
  refine go (c.md == 2) rfl (decide (t < 0)) rfl ?_
  rw [hdv]
  simp

end Go.Proofs.Ytccabgeeglhagaa.Stk
/- The document's Has: what the keys of a prefix have. Printed by wip/gen/stk3.py. -/
namespace Go.Proofs.Ytccabgeeglhagaa.Stk
open Go Go.RowKit Lw Grd Lin Con Shp Sk Exa Lev
set_option linter.unusedVariables false
set_option linter.unusedSimpArgs false
theorem lt_sz {a b : Nat} (h : a < b) (x : Nat) : a < b + x := by omega
theorem shr_at {U : Int} {n : Nat} (hn : n ≤ 63) : U / 2 ^ min n 64 = upK U n := by
  unfold upK
  rw [Nat.min_eq_left (by omega)]
  simp
theorem upN_snoc (us : Ups) (u : Int × Int) (n : Nat) (i : Int) : hasK i (upN (us ++ [u]) n) = hasK i (upN us n) + (if upK u.1 n = i then u.2 else 0) := by
  rw [upN_app, hasK_app]
  congr 1
  exact has_one i (upK u.1 n, u.2)
theorem hasN_bd {c : Cfg} (hk : 1 ≤ keys c 0) (qs : Ups) (j n : Nat) (i : Int) (hj : j ≤ 60) : -65970697666560 ≤ hasK i (upN (upsR c 0 qs 0 j) n) ∧ hasK i (upN (upsR c 0 qs 0 j) n) ≤ 65970697666560 := by
  have h := upsR_in hk qs 0 j
  have hl := upsR_len c 0 qs 0 j
  have h2 := hasK_bd (k := i) (b := 1099511627776) (by omega) (us := upN (upsR c 0 qs 0 j) n) (fun v hv => by
    obtain ⟨u, hu, rfl⟩ := List.mem_map.1 hv
    exact ⟨(h.1 u hu).2.2.1, (h.1 u hu).2.2.2⟩)
  rw [upN_len] at h2
  omega
set_option maxRecDepth 100000 in
set_option maxHeartbeats 4000000 in
theorem rhas_any (c : Cfg) (A : Option Addr) (n0 k0 : Nat) (qs : Ups) (n : Nat) (i : Int) (w : World) (hco : c.Ok) (hkeys : 1 ≤ keys c 0) (hq : UpdV w A n0 k0 qs) (hn : n ≤ 63) (i0 : 0 ≤ i) (i1 : i ≤ 18446744073709551615) :
    Calls Try.prog 19 #[.agg #[.int .i64 c.bt, .int .i64 c.rw, .int .i64 c.wd, .int .i64 c.md, .int .u64 c.sd], .slice A n0 k0, .agg #[.int .i64 (n : Int), .int .u64 i]] w fun e w' => e = .returned (.int .i64 (hasK i (upN (upsR c 0 qs 0 60) n))) ∧ Below w.heap.size w w' := by
  have HQ := Lib.hid hq
  have HL := Lib.hid hq.len
  have hnc := hq.nc
  have hcm := hq.cm
  unfold maxLen at hcm
  have HKY := Lib.hid hkeys
  have HBD := Lib.hid (fun j (hj : j ≤ 60) => hasN_bd (c := c) hkeys qs j n i hj)
  have HSR := Lib.hid (fun U => shr_at (U := U) hn)
  have CC0 := Lib.hid (fun w k d h0 h1 h2 h3 => rcut15_any c k d w hco h0 h1 h2 h3 hkeys)
  have HBX : Hid (Have w ((w.alloc (.cells #[.int .i64 c.bt, .int .i64 c.rw, .int .i64 c.wd, .int .i64 c.md, .int .u64 c.sd] 24)).alloc (.cells #[.int .i64 (n : Int), .int .u64 i] 45)) [boxT (w.heap.size + 1) 45 #[.int .i64 (n : Int), .int .u64 i], boxT w.heap.size 24 #[.int .i64 c.bt, .int .i64 c.rw, .int .i64 c.wd, .int .i64 c.md, .int .u64 c.sd]]) := Lib.hid (two_boxs w _ _ _ _)
  have hu : IntKind.u64.wrap (n : Int) = n := by rw [IntKind.wrap_u64]; omega
  clear hq hkeys hco
  go_enter Try.func19, Try.ntmps19
  go_wp2
  go_loopw [7, 8] (fun sv iv wr => ∃ (j : Nat), j ≤ n0 ∧ j ≤ 60 ∧ iv = .int .i64 j ∧ sv = .int .i64 (hasK i (upN (upsR c 0 qs 0 j) n)) ∧ Have w wr [boxT (w.heap.size + 1) 45 #[.int .i64 (n : Int), .int .u64 i], boxT w.heap.size 24 #[.int .i64 c.bt, .int .i64 c.rw, .int .i64 c.wd, .int .i64 c.md, .int .u64 c.sd]]) (fun _ iv _ => n0 - (intOf iv).toNat)
  case atStart => exact ⟨0, Nat.zero_le _, Nat.zero_le _, rfl, by rw [upsR_zero]; rfl, HBX.out⟩
  case round =>
    obtain ⟨j, hj, hj6, rfl, rfl, hv⟩ := hrel
    have HVr := Lib.hid hv
    have hwb := hv.below
    have hbd := HBD.out j hj6
    obtain ⟨X, hX⟩ : ∃ X, hasK i (upN (upsR c 0 qs 0 j) n) = X := ⟨_, rfl⟩
    have HX := Lib.hid hX
    rw [hX] at hbd ⊢
    clear hv hX
    by_cases hlt : j < n0 ∧ j < 60
    · obtain ⟨hj1, hj2⟩ := hlt
      obtain ⟨q, hq1⟩ : ∃ q, qs[j]? = some q := ⟨_, List.getElem?_eq_getElem (by rw [HL.out]; omega)⟩
      have hnx := upsR_next (c := c) (l := 0) hq1 (Nat.zero_le j)
      have hsn := upN_snoc (upsR c 0 qs 0 j) (cutU c 0 q) n i
      rw [← hnx, HX.out] at hsn
      have hcu := cutU_ok HKY.out q
      obtain ⟨a, g, o, rfl, hadd, d1w, d2w, kb, db⟩ := HQ.out.at hq1
      obtain ⟨qk, qd⟩ := q
      simp only at d1w d2w kb db
      have d1 := cell_up d1w hwb
      have d2 := cell_up d2w hwb
      obtain ⟨e1, e2, e3, e4, e5⟩ := box5 HVr.out.i1
      have p1 := box_cell (i := 0) HVr.out.i0 rfl
      have p2 := box_cell (i := 1) HVr.out.i0 rfl
      have CC := Lib.hid (fun w => CC0.out w qk qd kb.1 kb.2 db.1 db.2)
      obtain ⟨U, hU⟩ : ∃ U, (cutU c 0 (qk, qd)).1 = U := ⟨_, rfl⟩
      obtain ⟨D, hD⟩ : ∃ D, (cutU c 0 (qk, qd)).2 = D := ⟨_, rfl⟩
      rw [hU, hD] at CC hcu hsn
      have hsr := HSR.out U
      obtain ⟨V, hV⟩ : ∃ V, upK U n = V := ⟨_, rfl⟩
      rw [hV] at hsr hsn
      have hsr2 : U / 2 ^ n = V := by rw [← hsr, Nat.min_eq_left (by omega)]
      have hdb : -1099511627776 ≤ D ∧ D ≤ 1099511627776 := ⟨hcu.2.2.1, hcu.2.2.2.1⟩
      have wx : wrap64 (X + D) = X + D := IntWalk.wrap64_in _ ⟨by omega, by omega⟩
      have wx2 : IntKind.i64.wrap (X + D) = X + D := IntWalk.i64_in _ ⟨by omega, by omega⟩
      obtain ⟨Y, hY⟩ : ∃ Y, X + D = Y := ⟨_, rfl⟩
      have wy : wrap64 (X + D) = Y := by rw [wx, hY]
      have wy2 : IntKind.i64.wrap (X + D) = Y := by rw [wx2, hY]
      have hsz := box_lt HVr.out.i0
      have lz := lt_sz hsz
      clear hq1 hnx hU hD hV hcu d1w d2w hwb wx wx2
      by_cases hvi : V = i
      · rw [if_pos hvi, hY] at hsn
        have HSN := Lib.hid hsn
        subst hvi
        clear hsn hY hdb hbd
        go_upto_region 6 with fail
        go_region_held3 (fun w' => w'.cell? ⟨w.heap.size, 0, none⟩ = some (.int .i64 c.bt) ∧ w'.cell? ⟨w.heap.size, 1, none⟩ = some (.int .i64 c.rw) ∧ w'.cell? ⟨w.heap.size, 2, none⟩ = some (.int .i64 c.wd) ∧ w'.cell? ⟨w.heap.size, 3, none⟩ = some (.int .i64 c.md) ∧ w'.cell? ⟨w.heap.size, 4, none⟩ = some (.int .u64 c.sd) ∧ w'.cell? ⟨g, o, none⟩ = some (.int .u64 qk) ∧ w'.cell? ⟨g, o + 1, none⟩ = some (.int .i64 qd)) (first | (refine ⟨?_, ?_, ?_, ?_, ?_, ?_, ?_⟩ <;> (first | (with_reducible assumption) | (with_reducible refine cell_up e1 ?_) | (with_reducible refine cell_up e2 ?_) | (with_reducible refine cell_up e3 ?_) | (with_reducible refine cell_up e4 ?_) | (with_reducible refine cell_up e5 ?_) | (with_reducible refine cell_up d1 ?_) | (with_reducible refine cell_up d2 ?_)) <;> (repeat' (first | (with_reducible exact Below.refl _ _) | (with_reducible assumption) | (with_reducible refine below_over ?_ _ _) | (with_reducible refine Lw.below_alloc ?_ _) | (with_reducible refine Below.drew ?_) | (with_reducible refine below_drewN ?_ _) | (with_reducible refine Below.setCell ?_ ?_ _) | go_size)))) (first | (go_at_call 13; (with_reducible refine (CC.out _).mono ?_); rintro e w' ⟨rfl, hb⟩; obtain ⟨bs, dd, rfl⟩ := below_grow hb; clear hb))
        all_goals go_wp2
        all_goals go_roundw
        all_goals first
          | exact ⟨j + 1, by omega, by omega, by go_num, by rw [HSN.out], HVr.out.up (by repeat' (first | (with_reducible exact Below.refl _ _) | (with_reducible assumption) | (with_reducible refine below_over ?_ _ _) | (with_reducible refine Lw.below_alloc ?_ _) | (with_reducible refine Below.drew ?_) | (with_reducible refine below_drewN ?_ _) | (with_reducible refine Below.setCell ?_ ?_ _) | go_size))⟩
          | (simp [intOf]; omega)
      · rw [if_neg hvi, Int.add_zero] at hsn
        have HSN := Lib.hid hsn
        have hvb : (V == i) = false := by simpa using hvi
        clear hsn hY hdb hbd wy wy2
        go_upto_region 6 with fail
        go_region_held3 (fun w' => w'.cell? ⟨w.heap.size, 0, none⟩ = some (.int .i64 c.bt) ∧ w'.cell? ⟨w.heap.size, 1, none⟩ = some (.int .i64 c.rw) ∧ w'.cell? ⟨w.heap.size, 2, none⟩ = some (.int .i64 c.wd) ∧ w'.cell? ⟨w.heap.size, 3, none⟩ = some (.int .i64 c.md) ∧ w'.cell? ⟨w.heap.size, 4, none⟩ = some (.int .u64 c.sd) ∧ w'.cell? ⟨g, o, none⟩ = some (.int .u64 qk) ∧ w'.cell? ⟨g, o + 1, none⟩ = some (.int .i64 qd)) (first | (refine ⟨?_, ?_, ?_, ?_, ?_, ?_, ?_⟩ <;> (first | (with_reducible assumption) | (with_reducible refine cell_up e1 ?_) | (with_reducible refine cell_up e2 ?_) | (with_reducible refine cell_up e3 ?_) | (with_reducible refine cell_up e4 ?_) | (with_reducible refine cell_up e5 ?_) | (with_reducible refine cell_up d1 ?_) | (with_reducible refine cell_up d2 ?_)) <;> (repeat' (first | (with_reducible exact Below.refl _ _) | (with_reducible assumption) | (with_reducible refine below_over ?_ _ _) | (with_reducible refine Lw.below_alloc ?_ _) | (with_reducible refine Below.drew ?_) | (with_reducible refine below_drewN ?_ _) | (with_reducible refine Below.setCell ?_ ?_ _) | go_size)))) (first | (go_at_call 13; (with_reducible refine (CC.out _).mono ?_); rintro e w' ⟨rfl, hb⟩; obtain ⟨bs, dd, rfl⟩ := below_grow hb; clear hb))
        all_goals go_wp2
        all_goals go_roundw
        all_goals first
          | exact ⟨j + 1, by omega, by omega, by go_num, by rw [HSN.out], HVr.out.up (by repeat' (first | (with_reducible exact Below.refl _ _) | (with_reducible assumption) | (with_reducible refine below_over ?_ _ _) | (with_reducible refine Lw.below_alloc ?_ _) | (with_reducible refine Below.drew ?_) | (with_reducible refine below_drewN ?_ _) | (with_reducible refine Below.setCell ?_ ?_ _) | go_size))⟩
          | (simp [intOf]; omega)
    · have hend : upsR c 0 qs 0 j = upsR c 0 qs 0 60 := upsR_end hj6 (by rw [HL.out]; omega)
      have hXe := HX.out
      rw [hend] at hXe
      have HXE := Lib.hid hXe
      have hcases : ((j : Int) < n0 ∧ ¬ (j : Int) < 60) ∨ ¬ (j : Int) < n0 := by omega
      clear hend hXe hlt hbd
      rcases hcases with ⟨hc1, hc2⟩ | hc1
      all_goals go_wp2
      all_goals go_ret
      all_goals exact ⟨by first | (rw [HXE.out]; rfl) | rfl, HVr.out.below⟩
end Go.Proofs.Ytccabgeeglhagaa.Stk
/- The code's stack as a thing. Printed by wip/gen/stk.py. -/
namespace Go.Proofs.Ytccabgeeglhagaa.Stk
open Go Go.RowKit Lw Grd Lin Con Shp Sk Exa Lev
set_option linter.unusedVariables false
set_option linter.unusedSimpArgs false
/-- A stack of the code at p, in the blocks F. -/
def ST (w : World) (p : Addr) (F : Nat → Prop) (c : Cfg) (sts : List LS) : Prop :=
  IsRight c ∧ c.Ok ∧ sts.length = c.bt.toNat + 1 ∧ ∃ (b B0 : Nat) (hdr : Value) (vals : List Value) (ts : List Thing), p = ⟨b, 0, none⟩ ∧ LRow elvT c vals ts sts ∧ (manyT (boxT b 74 #[.int .i64 c.bt, .int .i64 c.rw, .int .i64 c.wd, .int .i64 c.md, .int .u64 c.sd, hdr] :: ownT B0 56 hdr vals :: ts)).I w ∧ F = (manyT (boxT b 74 #[.int .i64 c.bt, .int .i64 c.rw, .int .i64 c.wd, .int .i64 c.md, .int .u64 c.sd, hdr] :: ownT B0 56 hdr vals :: ts)).F
def stT (p : Addr) (F : Nat → Prop) (c : Cfg) (sts : List LS) : Thing where
  I := fun w => ST w p F c sts
  F := F
  keep := fun w w' H h hk hf => by
    obtain ⟨h1, h2, h3, b, B0, hdr, vals, ts, e, hr, hm, rfl⟩ := h
    exact ⟨h1, h2, h3, b, B0, hdr, vals, ts, e, hr, (manyT _).keep w w' H hm hk hf, rfl⟩
  lt := fun w h k hk => by
    obtain ⟨h1, h2, h3, b, B0, hdr, vals, ts, e, hr, hm, rfl⟩ := h
    exact (manyT _).lt w hm k hk
theorem stI {w : World} {p : Addr} {F : Nat → Prop} {c : Cfg} {sts : List LS} (h : (stT p F c sts).I w) : ST w p F c sts := h
theorem ST.right {w : World} {p : Addr} {F : Nat → Prop} {c : Cfg} {sts : List LS} (h : ST w p F c sts) : IsRight c ∧ c.Ok ∧ sts.length = c.bt.toNat + 1 := ⟨h.1, h.2.1, h.2.2.1⟩
theorem ST.up {w w' : World} {p : Addr} {F : Nat → Prop} {c : Cfg} {sts : List LS} (h : ST w p F c sts) (hb : Below w.heap.size w w') : ST w' p F c sts :=
  (stT p F c sts).keep w w' (fun _ => False) h (Kept.of_below hb) (fun _ _ h => h)
/-- A level's cells, if there is such a level. -/
def lvFl (sts : List LS) (n : Int) : List Int := if 0 ≤ n then ((sts[n.toNat]?).map LS.fl).getD [] else []
def spV (c : Cfg) (sts : List LS) (n i : Int) : Int := if 0 ≤ n then ((sts[n.toNat]?).map (fun st => lsPtV c n st i)).getD 0 else 0
def spC (c : Cfg) (sts : List LS) (n i : Int) : Int := if 0 ≤ n then ((sts[n.toNat]?).map (fun st => lsPtC c n st i)).getD 2 else 2
end Go.Proofs.Ytccabgeeglhagaa.Stk
/- The code's iterator over levels: what it hands to a round, and what it asks of it. By hand. -/
namespace Go.Proofs.Ytccabgeeglhagaa.Stk
open Go Go.RowKit Lw Grd Lin Con Shp Sk Exa Lev
set_option linter.unusedVariables false
set_option linter.unusedSimpArgs false
attribute [local go_sem] Oper.semAt_some
/-- One of N levels. -/
abbrev Lof (N : Nat) := {j : Nat // j < N}
/-- What a round is handed. -/
def encL (vals : List Value) (c : Cfg) (k : Int) (x : Lof vals.length) : Array Value := #[vals[x.1]'x.2, .int .u64 (aboveV c x.1 k)]
/-- The first levels, one behind another. -/
def UpTo {N : Nat} (pre : List (Lof N)) : Prop := pre.map (fun x => x.1) = List.range pre.length
theorem UpTo.nil (N : Nat) : UpTo ([] : List (Lof N)) := rfl
theorem UpTo.snoc {N : Nat} {pre : List (Lof N)} {x : Lof N} : UpTo (pre ++ [x]) ↔ UpTo pre ∧ x.1 = pre.length := by
  unfold UpTo
  rw [List.map_append, List.length_append, List.length_singleton, List.range_succ]
  constructor
  · intro h
    obtain ⟨h1, h2⟩ := List.append_inj h (by simp)
    exact ⟨h1, by simpa using h2⟩
  · rintro ⟨h1, h2⟩
    rw [h1, ← h2]
    rfl
theorem grown_of {w w' : World} (h : Below w.heap.size w w') : w.grownBy w' none := ⟨h.1, h.2, h.3, h.4, fun k hk _ => h.5 k hk⟩
set_option maxRecDepth 100000 in
set_option maxHeartbeats 2000000 in
theorem above_iter (m : Nat) (hm : 1 ≤ m) (c : Cfg) (hc : c.Ok) (k : Int) (k0 : 0 ≤ k) (k1 : k ≤ 18446744073709551615) (l bs bk b g cap : Nat) (G : Nat → Prop) (vals : List Value) (hN : vals.length ≤ 60) (hbs : G bs) (hbk : G bk) (hb : G b) (hg : G g) (J Jx : List (Lof vals.length) → World → Prop)
    (W : World) (hG : ∀ k, G k → k < W.heap.size) (hJ : AbidesFrom W.heap.size J)
    (hY : ∀ pre x W, J pre W → pre.length < vals.length → YieldAt Fence.wide (m - 1) Try.prog l (encL vals c k x) W fun e W' => (e = .returned (.bool true) ∧ J (pre ++ [x]) W' ∧ KeptG G W W') ∨ (e = .returned (.bool false) ∧ Jx (pre ++ [x]) W'))
    (h1 : W.cell? ⟨bs, 0, none⟩ = some (.pointer (some ⟨b, 0, none⟩))) (h2 : W.cell? ⟨bk, 0, none⟩ = some (.int .u64 k)) (h3 : W.heap[b]? = some (.cells #[.int .i64 c.bt, .int .i64 c.rw, .int .i64 c.wd, .int .i64 c.md, .int .u64 c.sd, .slice (some ⟨g, 0, none⟩) vals.length cap] 74 (0, 0))) (h4 : ∀ (j : Nat) (v : Value), vals[j]? = some v → W.cell? ⟨g, j, none⟩ = some v) (h0 : J [] W) :
    CallsIn Fence.wide m Try.prog 52 #[.func (.yield l) #[] #[], .pointer (some ⟨bs, 0, none⟩), .pointer (some ⟨bk, 0, none⟩)] W fun e W' => (∃ v, e = .returned v) ∧ ((∃ xs, (UpTo xs ∧ xs.length = vals.length) ∧ J xs W') ∨ (∃ pre, UpTo pre ∧ Jx pre W')) := by
  have hbx : (boxT b 74 #[.int .i64 c.bt, .int .i64 c.rw, .int .i64 c.wd, .int .i64 c.md, .int .u64 c.sd, .slice (some ⟨g, 0, none⟩) vals.length cap]).I W := h3
  refine callsIn_of_wp Try.func52 rfl trivial ?_ rfl
  simp only [Try.ntmps52, List.size_toArray, List.length_cons, List.length_nil, Nat.reduceAdd, Nat.reduceSub, Array.replicate_succ, Array.replicate_zero, List.push_toArray, List.append_toArray, List.nil_append, List.cons_append]
  have c0 : W.cell? ⟨b, 0, none⟩ = some (.int .i64 c.bt) := box_cell hbx rfl
  have c1 : W.cell? ⟨b, 1, none⟩ = some (.int .i64 c.rw) := box_cell hbx rfl
  have c2 : W.cell? ⟨b, 2, none⟩ = some (.int .i64 c.wd) := box_cell hbx rfl
  have c3 : W.cell? ⟨b, 3, none⟩ = some (.int .i64 c.md) := box_cell hbx rfl
  have c4 : W.cell? ⟨b, 4, none⟩ = some (.int .u64 c.sd) := box_cell hbx rfl
  have c5 : W.cell? ⟨b, 5, none⟩ = some (.slice (some ⟨g, 0, none⟩) vals.length cap) := box_cell hbx rfl
  gi_wp2
  gi_loopw [13] (fun i wr => ∃ (j : Nat) (pre : List (Lof vals.length)), j ≤ vals.length ∧ i = .int .i64 j ∧ UpTo pre ∧ pre.length = j ∧ J pre wr ∧ KeptG G W wr)
    (fun i _ => vals.length - (intOf i).toNat)
  case atStart => exact ⟨0, [], Nat.zero_le _, rfl, UpTo.nil _, rfl, h0, KeptG.refl _ _⟩
  case round =>
    obtain ⟨j, pre, hj, rfl, hup, hlen, hJs, hkp⟩ := hrel
    by_cases hlt : j < vals.length
    · obtain ⟨v, hv⟩ : ∃ v, vals[j]? = some v := ⟨_, List.getElem?_eq_getElem hlt⟩
      have hv2 : vals[j]'hlt = v := by
        have h9 := List.getElem?_eq_getElem hlt
        rw [hv] at h9
        exact (Option.some.inj h9).symm
      have hcv := hkp.cell (h4 j v hv) hg
      have d1 := hkp.cell h1 hbs
      have d2 := hkp.cell h2 hbk
      have e0 := hkp.cell c0 hb
      have e1 := hkp.cell c1 hb
      have e2 := hkp.cell c2 hb
      have e3 := hkp.cell c3 hb
      have e4 := hkp.cell c4 hb
      gi_wp2
      refine wpIn_wide.2 ?_
      go_region_with (go_at_call 53; (with_reducible refine (above_any c j k _ hc (by omega) (by omega) k0 k1).mono ?_); rintro e w' ⟨rfl, hbw⟩; have hb2 : Below wr.heap.size wr w' := (Below.drew (Below.refl _ wr)).trans hbw; have hJ2 := hJ pre wr w' none hJs (grown_of hb2) (fun r e => by cases e); obtain ⟨fn, tmps, assign, body, hy, hR⟩ := hY pre ⟨j, hlt⟩ w' hJ2 (by omega); have hk2 := hkp.trans (KeptG.of_below (fun k hk => Nat.lt_of_lt_of_le (hG k hk) hkp.size) hb2); simp only [encL, hv2] at hy)
      all_goals
        gi_wp2
        refine hR.mono ?_
        rintro e W3 (⟨rfl, hJ3, hk3⟩ | ⟨rfl, hJx3⟩)
        · gi_wp2
          go_roundw
          case rel => exact ⟨j + 1, pre ++ [⟨j, hlt⟩], by omega, by simp, UpTo.snoc.2 ⟨hup, hlen.symm⟩, by simp [hlen], hJ3, hk2.trans hk3⟩
          case measure => simp [intOf]; omega
        · gi_wp2
          refine bodyPost_ret (results_none rfl _ _ _) rfl ?_
          exact ⟨⟨_, rfl⟩, .inr ⟨pre ++ [⟨j, hlt⟩], UpTo.snoc.2 ⟨hup, hlen.symm⟩, hJx3⟩⟩
    · obtain rfl : j = vals.length := by omega
      gi_wp2
      go_end0
      exact ⟨⟨_, rfl⟩, .inl ⟨pre, ⟨hup, hlen⟩, hJs⟩⟩
end Go.Proofs.Ytccabgeeglhagaa.Stk
/- The code's first error over all levels: a range over a function. Printed by wip/gen/stk10.py. -/
namespace Go.Proofs.Ytccabgeeglhagaa.Stk
open Go Go.RowKit Lw Grd Lin Con Shp Sk Exa Lev Go.Shelf
set_option linter.unusedVariables false
set_option linter.unusedSimpArgs false
attribute [local go_sem] Oper.semAt_some
theorem sabove_any (p : Addr) (k : Int) (w : World) :
    Calls Try.prog 38 #[.pointer (some p), .int .u64 k] w fun e w' => e = .returned (.func (.func 52) #[] #[.pointer (some ⟨w.heap.size, 0, none⟩), .pointer (some ⟨w.heap.size + 1, 0, none⟩)]) ∧ w' = (w.alloc (.cells #[.pointer (some p)] 29)).alloc (.cells #[.int .u64 k] 22) := by
  go_enter Try.func38, Try.ntmps38
  go_wp2
  go_ret
  exact ⟨rfl, rfl⟩
theorem HoldC.drop {F0 : Nat → Prop} {w0 w : World} {t : Thing} {ts : List Thing} (h : HoldC F0 w0 w (t :: ts)) : HoldC F0 w0 w ts :=
  ⟨⟨h.1.1, fun u hu => h.1.2.1 u (List.mem_cons_of_mem _ hu), h.1.2.2.2⟩, fun u hu => h.2 u (List.mem_cons_of_mem _ hu)⟩
theorem holdc_store {F0 : Nat → Prop} {w0 w : World} {fs ts : List Thing} {b : Nat} {e : TypeId} {v v' : Value} (h : HoldC F0 w0 w (fs ++ boxT b e #[v] :: ts)) : HoldC F0 w0 (w.setCell ⟨b, 0, none⟩ v') (fs ++ boxT b e #[v'] :: ts) := by
  have hb : Boxed w b e v := h.i (t := boxT b e #[v]) (by simp)
  have hb2 := hb.set v'
  refine h.turn (boxT b e #[v']) hb2 (Kept.set (F := (boxT b e #[v]).F) (Kept.refl _ _) (.inl rfl) 0 v') (fun k hk => .inl hk) (cel_box hb2)
set_option maxRecDepth 100000 in
set_option maxHeartbeats 2000000 in
theorem first_1 (c : Cfg) (k : Int) (vals : List Value) (lb : Array Value) (bd : Nat) (F0 : Nat → Prop) (w0 w : World) (gs ls0 : List Thing)
    (P : List (Lof vals.length) → List Thing → Prop) (Px : List (Lof vals.length) → Int → List Thing → Prop)
    (h0 : HoldC F0 w0 w (gs ++ ls0)) (hP : P [] ls0)
    (hseq : ∀ (w1 : World) (m : Nat), 1 ≤ m → Below w.heap.size w w1 → SeqStopsK Fence.wide m Try.prog 52 lb (encL vals c k) (KeptG (manyT gs).F) (fun xs => UpTo xs ∧ xs.length = vals.length) UpTo vals.length w1)
    (hcall : ∀ (us : List Thing) (pre : List (Lof vals.length)) (ls : List Thing) (x : Lof vals.length) (W : World), HoldC F0 w0 W (us ++ (gs ++ ls)) → P pre ls → pre.length < vals.length →
      Calls Try.prog 39 #[vals[x.1]'x.2, .int .u64 (aboveV c x.1 k), .pointer (some ⟨bd, 0, none⟩)] W fun e W' => ∃ (code : Int) (ls' : List Thing), e = .returned (.int .i64 code) ∧ KeepsOthers W W' ∧ KeptG (manyT gs).F W W' ∧ HoldC F0 w0 W' (us ++ (gs ++ ls')) ∧ (code = 0 → P (pre ++ [x]) ls') ∧ (¬ code = 0 → Px (pre ++ [x]) code ls')) :
    Calls Try.prog 37 #[.func (.func 52) #[] lb, .func (.func 39) #[] #[.pointer (some ⟨bd, 0, none⟩)]] w fun e W' =>
      ∃ ls, HoldC F0 w0 W' (gs ++ ls) ∧ ((e = .returned (.int .i64 0) ∧ ∃ xs, (UpTo xs ∧ xs.length = vals.length) ∧ P xs ls) ∨ (∃ pre code, UpTo pre ∧ ¬ code = 0 ∧ e = .returned (.int .i64 code) ∧ Px pre code ls)) := by
  refine (callsIn_wide (n := 9)).1 ?_
  refine callsIn_of_wp_marks Try.func37 rfl trivial ?_ rfl
  simp only [Try.ntmps37, List.size_toArray, List.length_cons, List.length_nil, Nat.reduceAdd, Nat.reduceSub, Array.replicate_succ, Array.replicate_zero, List.push_toArray, List.append_toArray, List.nil_append, List.cons_append]
  gi_wp2
  have B1 : Below w.heap.size w (w.alloc (.cells #[.func (.func 39) #[] #[.pointer (some ⟨bd, 0, none⟩)]] 84)) := Lw.below_alloc (Below.refl _ _) _
  have B2 := Lw.below_alloc (Below.refl _ (w.alloc (.cells #[.func (.func 39) #[] #[.pointer (some ⟨bd, 0, none⟩)]] 84))) (.cells #[.int .i64 0] 46)
  have h1 := h0.push (boxT w.heap.size 84 #[.func (.func 39) #[] #[.pointer (some ⟨bd, 0, none⟩)]]) B1 (heap_alloc_new w _) (fun k hk => Nat.le_of_eq hk.symm) (cel_box (heap_alloc_new w _))
  have h2 := h1.push (boxT (w.heap.size + 1) 46 #[.int .i64 0]) B2 (by have := heap_alloc_new (w.alloc (.cells #[.func (.func 39) #[] #[.pointer (some ⟨bd, 0, none⟩)]] 84)) (.cells #[.int .i64 0] 46); rw [World.size_alloc] at this; exact this) (fun k hk => Nat.le_of_eq (by simp; exact hk.symm)) (cel_box (by have := heap_alloc_new (w.alloc (.cells #[.func (.func 39) #[] #[.pointer (some ⟨bd, 0, none⟩)]] 84)) (.cells #[.int .i64 0] 46); rw [World.size_alloc] at this; exact this))
  have hG : ∀ k, (manyT gs).F k → k < w.heap.size := fun k hk => by
    obtain ⟨t, ht, hk2⟩ := hk
    exact t.lt w (h0.i (List.mem_append_left _ ht)) k hk2
  have hw0 : w0.heap.size ≤ w.heap.size := h0.1.1.size
  have hI : ∀ (r : Int) (us : List Thing), OwnFrom w.heap.size (fun (_ : Unit) W => HoldC F0 w0 W us) := fun r us => HoldC.own hw0 (fun _ => us)
  refine wpIn_rangeFunc_ownG rfl (by omega) (gf := 52) (lb := lb) rfl trivial (enters_of Try.func52 (by kernel_rfl) rfl)
    (hseq _ (9 - 1) (by omega) (B1.trans (B2.mono (by simp)))) (fun h k => KeptG.trans h k) (KeptG.put (fun k hk => by have := hG k hk; simp; omega)) (Below.refl _ _) (fun _ => rfl)
    (fun pre W => ∃ ls, HoldC F0 w0 W (boxT (w.heap.size + 1) 46 #[.int .i64 0] :: boxT w.heap.size 84 #[.func (.func 39) #[] #[.pointer (some ⟨bd, 0, none⟩)]] :: (gs ++ ls)) ∧ P pre ls)
    (fun j pre W => j = .ret ∧ ∃ ls code, HoldC F0 w0 W (boxT (w.heap.size + 1) 46 #[.int .i64 code] :: boxT w.heap.size 84 #[.func (.func 39) #[] #[.pointer (some ⟨bd, 0, none⟩)]] :: (gs ++ ls)) ∧ ¬ code = 0 ∧ Px pre code ls)
    (by
      rintro s A B row ⟨ls, h, hp⟩ hg hr
      exact ⟨ls, HoldC.own (Nat.le_trans hw0 (by simp; omega)) (fun (_ : Unit) => _) () A B row h hg hr, hp⟩)
    (by
      rintro j s A B row ⟨hj, ls, code, h, hne, hp⟩ hg hr
      exact ⟨hj, ls, code, HoldC.own (Nat.le_trans hw0 (by simp; omega)) (fun (_ : Unit) => _) () A B row h hg hr, hne, hp⟩)
    ⟨ls0, h2, hP⟩
    (fun x => { tmps := #[.func (.func 52) #[] lb, .func (.func 39) #[] #[.pointer (some ⟨bd, 0, none⟩)], undef, .pointer (some ⟨w.heap.size, 0, none⟩), .pointer (some ⟨w.heap.size + 1, 0, none⟩), vals[x.1]'x.2, .int .u64 (aboveV c x.1 k), undef, .func (.func 52) #[] lb, vals[x.1]'x.2, .int .u64 (aboveV c x.1 k), undef, undef, undef, undef, undef, undef, undef], defers := [] }) ?assign ?body ?done ?stop
  case assign =>
    intro l x W K hK
    simp only [encL]
    gi_wp2
    exact hK
  case body =>
    rintro l pre x W ⟨ls, hh, hp⟩ hlen
    have b1 := box_cell (hh.i (t := boxT w.heap.size 84 #[.func (.func 39) #[] #[.pointer (some ⟨bd, 0, none⟩)]]) (by simp)) (i := 0) rfl
    gi_wp2_with (refine ⟨trivial, ?_⟩; gi_at_call 39; refine (CallsIn.inRound l (callsIn_wide.2 (hcall [boxT (w.heap.size + 1) 46 #[.int .i64 0], boxT w.heap.size 84 #[.func (.func 39) #[] #[.pointer (some ⟨bd, 0, none⟩)]]] pre ls x W hh hp hlen))).mono ?_; rintro e W' ⟨code, ls', rfl, hko, hkg, hh', hz, hnz⟩; have r1 : Boxed W' (w.heap.size + 1) 46 (.int .i64 0) := hh'.i (t := boxT (w.heap.size + 1) 46 #[.int .i64 0]) (by simp); have r2 := r1.cell; have r3 := r1.frozen)
    · rename_i hcc
      have hc0 : ¬ code = 0 := by simpa using hcc
      have hs := holdc_store (v' := .int .i64 code) (fs := []) hh'
      exact ⟨(hko.trans (KeepsOthers.setCell _ _ _)).from _, rfl, ls', code, hs, hc0, hnz hc0⟩
    · rename_i hcc
      have hc0 : code = 0 := by simpa using hcc
      exact ⟨hko.from _, hkg, ls', hh', hz hc0⟩
  case done =>
    rintro D ys W hD hys ⟨ls, hh, hp⟩ hK
    have r1 : Boxed W (w.heap.size + 1) 46 (.int .i64 0) := hh.i (t := boxT (w.heap.size + 1) 46 #[.int .i64 0]) (by simp)
    have r2 := r1.cell
    have r3 := r1.frozen
    gi_wp2
    have hs := holdc_store (v' := .int .i64 0) (fs := []) hh
    have hK' := (KeepsOthers.setCell W ⟨w.heap.size + 1, 0, none⟩ (.int .i64 0)).same D _ hK rfl
    refine ⟨by simp, .inl ⟨_, _, rfl, run_takeDeferred hK', ?_⟩⟩
    have hs2 := HoldC.own (B := w.heap.size) hw0 (fun (_ : Unit) => boxT (w.heap.size + 1) 46 #[.int .i64 0] :: boxT w.heap.size 84 #[.func (.func 39) #[] #[.pointer (some ⟨bd, 0, none⟩)]] :: (gs ++ ls)) () _ _ _ hs (grownBy_putObj' _ D (.deferred none)) (fun r e => by cases e; exact ⟨by simp at hD; omega, _, hK', rfl⟩)
    have hc5 : (((W.setCell ⟨w.heap.size + 1, 0, none⟩ (.int .i64 0)).putObj D (.deferred none))).cell? ⟨w.heap.size + 1, 0, none⟩ = some (.int .i64 0) := box_cell (hs2.i (t := boxT (w.heap.size + 1) 46 #[.int .i64 0]) (by simp)) (i := 0) rfl
    refine ⟨.int .i64 0, ?_, ls, hs2.drop.drop, .inl ⟨rfl, ys, hys, hp⟩⟩
    simp [results, Try.f37, go_sem, hc5]
  case stop =>
    rintro D j pre W hD hpre ⟨rfl, ls, code, hh, hne, hp⟩ hK
    gi_wp2
    refine ⟨by simp, .inl ⟨_, _, rfl, run_takeDeferred hK, ?_⟩⟩
    have hs2 := HoldC.own (B := w.heap.size) hw0 (fun (_ : Unit) => boxT (w.heap.size + 1) 46 #[.int .i64 code] :: boxT w.heap.size 84 #[.func (.func 39) #[] #[.pointer (some ⟨bd, 0, none⟩)]] :: (gs ++ ls)) () _ _ _ hh (grownBy_putObj' _ D (.deferred none)) (fun r e => by cases e; exact ⟨by simp at hD; omega, _, hK, rfl⟩)
    have hc5 : (W.putObj D (.deferred none)).cell? ⟨w.heap.size + 1, 0, none⟩ = some (.int .i64 code) := box_cell (hs2.i (t := boxT (w.heap.size + 1) 46 #[.int .i64 code]) (by simp)) (i := 0) rfl
    refine ⟨.int .i64 code, ?_, ls, hs2.drop.drop, .inr ⟨pre, code, hpre, hne, rfl, hp⟩⟩
    simp [results, Try.f37, go_sem, hc5]
set_option maxRecDepth 100000 in
set_option maxHeartbeats 2000000 in
theorem first_2 (c : Cfg) (k : Int) (vals : List Value) (lb : Array Value) (bd : Nat) (F0 : Nat → Prop) (w0 w : World) (gs ls0 : List Thing)
    (P : List (Lof vals.length) → List Thing → Prop) (Px : List (Lof vals.length) → Int → List Thing → Prop)
    (h0 : HoldC F0 w0 w (gs ++ ls0)) (hP : P [] ls0)
    (hseq : ∀ (w1 : World) (m : Nat), 1 ≤ m → Below w.heap.size w w1 → SeqStopsK Fence.wide m Try.prog 52 lb (encL vals c k) (KeptG (manyT gs).F) (fun xs => UpTo xs ∧ xs.length = vals.length) UpTo vals.length w1)
    (hcall : ∀ (us : List Thing) (pre : List (Lof vals.length)) (ls : List Thing) (x : Lof vals.length) (W : World), HoldC F0 w0 W (us ++ (gs ++ ls)) → P pre ls → pre.length < vals.length →
      Calls Try.prog 40 #[vals[x.1]'x.2, .int .u64 (aboveV c x.1 k), .pointer (some ⟨bd, 0, none⟩)] W fun e W' => ∃ (code : Int) (ls' : List Thing), e = .returned (.int .i64 code) ∧ KeepsOthers W W' ∧ KeptG (manyT gs).F W W' ∧ HoldC F0 w0 W' (us ++ (gs ++ ls')) ∧ (code = 0 → P (pre ++ [x]) ls') ∧ (¬ code = 0 → Px (pre ++ [x]) code ls')) :
    Calls Try.prog 37 #[.func (.func 52) #[] lb, .func (.func 40) #[] #[.pointer (some ⟨bd, 0, none⟩)]] w fun e W' =>
      ∃ ls, HoldC F0 w0 W' (gs ++ ls) ∧ ((e = .returned (.int .i64 0) ∧ ∃ xs, (UpTo xs ∧ xs.length = vals.length) ∧ P xs ls) ∨ (∃ pre code, UpTo pre ∧ ¬ code = 0 ∧ e = .returned (.int .i64 code) ∧ Px pre code ls)) := by
  refine (callsIn_wide (n := 9)).1 ?_
  refine callsIn_of_wp_marks Try.func37 rfl trivial ?_ rfl
  simp only [Try.ntmps37, List.size_toArray, List.length_cons, List.length_nil, Nat.reduceAdd, Nat.reduceSub, Array.replicate_succ, Array.replicate_zero, List.push_toArray, List.append_toArray, List.nil_append, List.cons_append]
  gi_wp2
  have B1 : Below w.heap.size w (w.alloc (.cells #[.func (.func 40) #[] #[.pointer (some ⟨bd, 0, none⟩)]] 84)) := Lw.below_alloc (Below.refl _ _) _
  have B2 := Lw.below_alloc (Below.refl _ (w.alloc (.cells #[.func (.func 40) #[] #[.pointer (some ⟨bd, 0, none⟩)]] 84))) (.cells #[.int .i64 0] 46)
  have h1 := h0.push (boxT w.heap.size 84 #[.func (.func 40) #[] #[.pointer (some ⟨bd, 0, none⟩)]]) B1 (heap_alloc_new w _) (fun k hk => Nat.le_of_eq hk.symm) (cel_box (heap_alloc_new w _))
  have h2 := h1.push (boxT (w.heap.size + 1) 46 #[.int .i64 0]) B2 (by have := heap_alloc_new (w.alloc (.cells #[.func (.func 40) #[] #[.pointer (some ⟨bd, 0, none⟩)]] 84)) (.cells #[.int .i64 0] 46); rw [World.size_alloc] at this; exact this) (fun k hk => Nat.le_of_eq (by simp; exact hk.symm)) (cel_box (by have := heap_alloc_new (w.alloc (.cells #[.func (.func 40) #[] #[.pointer (some ⟨bd, 0, none⟩)]] 84)) (.cells #[.int .i64 0] 46); rw [World.size_alloc] at this; exact this))
  have hG : ∀ k, (manyT gs).F k → k < w.heap.size := fun k hk => by
    obtain ⟨t, ht, hk2⟩ := hk
    exact t.lt w (h0.i (List.mem_append_left _ ht)) k hk2
  have hw0 : w0.heap.size ≤ w.heap.size := h0.1.1.size
  have hI : ∀ (r : Int) (us : List Thing), OwnFrom w.heap.size (fun (_ : Unit) W => HoldC F0 w0 W us) := fun r us => HoldC.own hw0 (fun _ => us)
  refine wpIn_rangeFunc_ownG rfl (by omega) (gf := 52) (lb := lb) rfl trivial (enters_of Try.func52 (by kernel_rfl) rfl)
    (hseq _ (9 - 1) (by omega) (B1.trans (B2.mono (by simp)))) (fun h k => KeptG.trans h k) (KeptG.put (fun k hk => by have := hG k hk; simp; omega)) (Below.refl _ _) (fun _ => rfl)
    (fun pre W => ∃ ls, HoldC F0 w0 W (boxT (w.heap.size + 1) 46 #[.int .i64 0] :: boxT w.heap.size 84 #[.func (.func 40) #[] #[.pointer (some ⟨bd, 0, none⟩)]] :: (gs ++ ls)) ∧ P pre ls)
    (fun j pre W => j = .ret ∧ ∃ ls code, HoldC F0 w0 W (boxT (w.heap.size + 1) 46 #[.int .i64 code] :: boxT w.heap.size 84 #[.func (.func 40) #[] #[.pointer (some ⟨bd, 0, none⟩)]] :: (gs ++ ls)) ∧ ¬ code = 0 ∧ Px pre code ls)
    (by
      rintro s A B row ⟨ls, h, hp⟩ hg hr
      exact ⟨ls, HoldC.own (Nat.le_trans hw0 (by simp; omega)) (fun (_ : Unit) => _) () A B row h hg hr, hp⟩)
    (by
      rintro j s A B row ⟨hj, ls, code, h, hne, hp⟩ hg hr
      exact ⟨hj, ls, code, HoldC.own (Nat.le_trans hw0 (by simp; omega)) (fun (_ : Unit) => _) () A B row h hg hr, hne, hp⟩)
    ⟨ls0, h2, hP⟩
    (fun x => { tmps := #[.func (.func 52) #[] lb, .func (.func 40) #[] #[.pointer (some ⟨bd, 0, none⟩)], undef, .pointer (some ⟨w.heap.size, 0, none⟩), .pointer (some ⟨w.heap.size + 1, 0, none⟩), vals[x.1]'x.2, .int .u64 (aboveV c x.1 k), undef, .func (.func 52) #[] lb, vals[x.1]'x.2, .int .u64 (aboveV c x.1 k), undef, undef, undef, undef, undef, undef, undef], defers := [] }) ?assign ?body ?done ?stop
  case assign =>
    intro l x W K hK
    simp only [encL]
    gi_wp2
    exact hK
  case body =>
    rintro l pre x W ⟨ls, hh, hp⟩ hlen
    have b1 := box_cell (hh.i (t := boxT w.heap.size 84 #[.func (.func 40) #[] #[.pointer (some ⟨bd, 0, none⟩)]]) (by simp)) (i := 0) rfl
    gi_wp2_with (refine ⟨trivial, ?_⟩; gi_at_call 40; refine (CallsIn.inRound l (callsIn_wide.2 (hcall [boxT (w.heap.size + 1) 46 #[.int .i64 0], boxT w.heap.size 84 #[.func (.func 40) #[] #[.pointer (some ⟨bd, 0, none⟩)]]] pre ls x W hh hp hlen))).mono ?_; rintro e W' ⟨code, ls', rfl, hko, hkg, hh', hz, hnz⟩; have r1 : Boxed W' (w.heap.size + 1) 46 (.int .i64 0) := hh'.i (t := boxT (w.heap.size + 1) 46 #[.int .i64 0]) (by simp); have r2 := r1.cell; have r3 := r1.frozen)
    · rename_i hcc
      have hc0 : ¬ code = 0 := by simpa using hcc
      have hs := holdc_store (v' := .int .i64 code) (fs := []) hh'
      exact ⟨(hko.trans (KeepsOthers.setCell _ _ _)).from _, rfl, ls', code, hs, hc0, hnz hc0⟩
    · rename_i hcc
      have hc0 : code = 0 := by simpa using hcc
      exact ⟨hko.from _, hkg, ls', hh', hz hc0⟩
  case done =>
    rintro D ys W hD hys ⟨ls, hh, hp⟩ hK
    have r1 : Boxed W (w.heap.size + 1) 46 (.int .i64 0) := hh.i (t := boxT (w.heap.size + 1) 46 #[.int .i64 0]) (by simp)
    have r2 := r1.cell
    have r3 := r1.frozen
    gi_wp2
    have hs := holdc_store (v' := .int .i64 0) (fs := []) hh
    have hK' := (KeepsOthers.setCell W ⟨w.heap.size + 1, 0, none⟩ (.int .i64 0)).same D _ hK rfl
    refine ⟨by simp, .inl ⟨_, _, rfl, run_takeDeferred hK', ?_⟩⟩
    have hs2 := HoldC.own (B := w.heap.size) hw0 (fun (_ : Unit) => boxT (w.heap.size + 1) 46 #[.int .i64 0] :: boxT w.heap.size 84 #[.func (.func 40) #[] #[.pointer (some ⟨bd, 0, none⟩)]] :: (gs ++ ls)) () _ _ _ hs (grownBy_putObj' _ D (.deferred none)) (fun r e => by cases e; exact ⟨by simp at hD; omega, _, hK', rfl⟩)
    have hc5 : (((W.setCell ⟨w.heap.size + 1, 0, none⟩ (.int .i64 0)).putObj D (.deferred none))).cell? ⟨w.heap.size + 1, 0, none⟩ = some (.int .i64 0) := box_cell (hs2.i (t := boxT (w.heap.size + 1) 46 #[.int .i64 0]) (by simp)) (i := 0) rfl
    refine ⟨.int .i64 0, ?_, ls, hs2.drop.drop, .inl ⟨rfl, ys, hys, hp⟩⟩
    simp [results, Try.f37, go_sem, hc5]
  case stop =>
    rintro D j pre W hD hpre ⟨rfl, ls, code, hh, hne, hp⟩ hK
    gi_wp2
    refine ⟨by simp, .inl ⟨_, _, rfl, run_takeDeferred hK, ?_⟩⟩
    have hs2 := HoldC.own (B := w.heap.size) hw0 (fun (_ : Unit) => boxT (w.heap.size + 1) 46 #[.int .i64 code] :: boxT w.heap.size 84 #[.func (.func 40) #[] #[.pointer (some ⟨bd, 0, none⟩)]] :: (gs ++ ls)) () _ _ _ hh (grownBy_putObj' _ D (.deferred none)) (fun r e => by cases e; exact ⟨by simp at hD; omega, _, hK, rfl⟩)
    have hc5 : (W.putObj D (.deferred none)).cell? ⟨w.heap.size + 1, 0, none⟩ = some (.int .i64 code) := box_cell (hs2.i (t := boxT (w.heap.size + 1) 46 #[.int .i64 code]) (by simp)) (i := 0) rfl
    refine ⟨.int .i64 code, ?_, ls, hs2.drop.drop, .inr ⟨pre, code, hpre, hne, rfl, hp⟩⟩
    simp [results, Try.f37, go_sem, hc5]
end Go.Proofs.Ytccabgeeglhagaa.Stk
/- What Point and Total tell of a stack that was fed. Printed by wip/gen/stk5.py. -/
namespace Go.Proofs.Ytccabgeeglhagaa.Stk
open Go Go.RowKit Lw Grd Lin Con Shp Sk Exa Lev
set_option linter.unusedVariables false
set_option linter.unusedSimpArgs false
theorem st_ex {c : Cfg} {us : Ups} {n : Nat} {i : Int} (hx : exactB c n = true) (i0 : 0 ≤ i) (hi : i < keys c n) : lsPtV c n (stOf c us n) i = hasK i (upN us n) := by
  have hk : ((keys c n).toNat : Int) = keys c n := Int.toNat_of_nonneg (by omega)
  unfold stOf
  rw [if_pos hx]
  show Exa.ptV (sums (keys c n).toNat (upN us n)) i = _
  unfold Exa.ptV
  rw [if_neg (by rw [sums_len, hk]; omega)]
  unfold num
  rw [sums_get (show i.toNat < (keys c n).toNat by omega)]
  show hasK ((i.toNat : Nat) : Int) (upN us n) = _
  rw [Int.toNat_of_nonneg i0]
theorem st_pc {c : Cfg} {us : Ups} {n : Nat} {i : Int} (i0 : 0 ≤ i) (hi : i < keys c n) : lsPtC c n (stOf c us n) i = 0 := by
  have hk : ((keys c n).toNat : Int) = keys c n := Int.toNat_of_nonneg (by omega)
  unfold stOf
  split
  · show Exa.ptC (sums (keys c n).toNat (upN us n)) i = 0
    unfold Exa.ptC
    rw [if_neg (by rw [sums_len, hk]; omega)]
  · show ptCode c n i = 0
    exact if_neg (by omega)
theorem sp_at {c : Cfg} (hr : IsRight c) (us : Ups) {n : Nat} (hn : (n : Int) ≤ c.bt) (i : Int) : spV c (stsOf c us) n i = lsPtV c n (stOf c us n) i ∧ spC c (stsOf c us) n i = lsPtC c n (stOf c us n) i := by
  have hb := hr.1
  have h1 := stsOf_get (c := c) (us := us) (n := n) (by omega)
  unfold spV spC
  rw [if_pos (by omega), if_pos (by omega), Int.toNat_natCast, h1]
  exact ⟨rfl, rfl⟩
theorem tot_at {c : Cfg} (hr : IsRight c) (us : Ups) : spV c (stsOf c us) c.bt 0 = hasK 0 (upN us c.bt.toNat) := by
  have hb := hr.1
  have e : ((c.bt.toNat : Nat) : Int) = c.bt := by omega
  have h1 := (sp_at hr us (n := c.bt.toNat) (by omega) 0).1
  rw [e] at h1
  rw [h1]
  have h2 := st_ex (c := c) (us := us) (n := c.bt.toNat) (i := 0) (by rw [e]; exact Exa.exact_top hr) (by omega) (by rw [e, keys_top hr]; omega)
  rw [e] at h2
  exact h2
end Go.Proofs.Ytccabgeeglhagaa.Stk
