/- Texts that the statements of this seat lean on, put together: SpnCode, StkFed, SpnFed, SpnFedM, StkLawA, SpnOpen, SpnShown. -/
import Derived.Test.YtbifihhfoanmgaaGreatMc
import Derived.Test.YtbifihhfoanmgaaGreatMd
import Derived.Test.YtbifihhfoanmgaaGreatMe
import Derived.Test.YtbifihhfoanmgaaGreatMg
import Derived.Test.YtbifihhfoanmgaaGreatMi
import Derived.Test.YtbifihhfoanmgaaGreatMk
import Derived.Test.YtbifihhfoanmgaaGreatMl
import Derived.Test.YtbifihhfoanmgaaGreatMm
import Derived.Deep.LoopGhost
import Derived.Deep.RegionHeld3
import Derived.Deep.DeepCutAuto
import Derived.Deep.QuietTactic
import Derived.BigQuiet
/- The code's Parts, Range and Rank. By hand. -/
namespace Go.Proofs.YtbifihhfoanmgaaGreat.Spn
open Go Go.RowKit Lw Grd Lin Con Shp Sk Exa Lev Stk Pcs Go.Shelf
set_option linter.unusedVariables false
set_option linter.unusedSimpArgs false
attribute [local go_sem] Oper.semAt_some
theorem fld_bt (c : Cfg) (w : World) : (Instr.field 24 (.agg #[.int .i64 c.bt, .int .i64 c.rw, .int .i64 c.wd, .int .i64 c.md, .int .u64 c.sd]) 0).run Tryz.prog w = .ok (.int .i64 c.bt) w := by kernel_rfl
theorem ptc_ok {c : Cfg} (hr : IsRight c) {lo hi : Int} (hi0 : 0 ≤ hi) : okC c.bt lo hi = decide (ptC2 c lo hi = 0) := by
  have hb := hr.1
  have hb2 := hr.2.1
  have e0 : keys c 0 = 2 ^ (c.bt - 0).toNat := keys_yes hr (by omega) (by omega)
  have e9 : (c.bt - 0).toNat = c.bt.toNat := by omega
  rw [e9] at e0
  have e1 : p2 c.bt.toNat = keys c 0 := by rw [e0]; unfold p2; simp
  unfold okC ptC2
  rw [e1]
  refine decide_eq_decide.2 ?_
  by_cases h1 : hi < lo
  · rw [if_pos h1]
    constructor
    · rintro ⟨-, -, h2, -⟩
      omega
    · intro h; cases h
  · rw [if_neg h1]
    by_cases h2 : keys c 0 ≤ hi
    · rw [if_pos h2]
      constructor
      · rintro ⟨-, -, -, h3⟩
        omega
      · intro h; cases h
    · rw [if_neg h2]
      exact ⟨fun _ => rfl, fun _ => ⟨by omega, by omega, by omega, by omega⟩⟩
set_option maxRecDepth 100000 in
set_option maxHeartbeats 2000000 in
theorem sp_parts_1 (p : Addr) (F : Nat → Prop) (c : Cfg) (sts : List LS) (lo hi : Int) (w : World) (h : ST w p F c sts) (h1 : hi < lo) :
    Calls Tryz.prog 14 #[.pointer (some p), .int .u64 lo, .int .u64 hi] w fun e w' => ∃ (A : Option Addr) (n cap : Nat), e = .returned (.tuple #[.slice A n cap, .int .i64 (ptC2 c lo hi)]) ∧ Rd .i64 w' A (ptL c (fun L i => spV c sts (L : Int) i) lo hi) ∧ (ptL c (fun L i => spV c sts (L : Int) i) lo hi).length = n ∧ n ≤ cap ∧ cap ≤ maxLen ∧ Below w.heap.size w w' := by
  have e1 : ptC2 c lo hi = 1 := by unfold ptC2; rw [if_pos h1]
  have e2 : ptL c (fun L i => spV c sts (L : Int) i) lo hi = [] := by unfold ptL; rw [if_neg (by rw [e1]; decide)]
  rw [e1, e2]
  clear h e1 e2
  go_enter Tryz.func14, Tryz.ntmps14
  go_wp2
  refine bodyPost_ret (v := .tuple #[.slice none 0 0, .int .i64 1]) (by simp [results, Tryz.results14, go_sem]) rfl ?_
  exact ⟨none, 0, 0, rfl, fun j v hv => by simp at hv, rfl, Nat.le_refl _, by decide, Below.refl _ _⟩
set_option maxRecDepth 100000 in
set_option maxHeartbeats 2000000 in
theorem sp_parts_2 (p : Addr) (F : Nat → Prop) (c : Cfg) (sts : List LS) (lo hi : Int) (w : World) (h : ST w p F c sts) (lo0 : 0 ≤ lo) (lo1 : lo ≤ 18446744073709551615) (hi0 : 0 ≤ hi) (hi1 : hi ≤ 18446744073709551615) (h1 : ¬ hi < lo) (h2 : keys c 0 ≤ hi) :
    Calls Tryz.prog 14 #[.pointer (some p), .int .u64 lo, .int .u64 hi] w fun e w' => ∃ (A : Option Addr) (n cap : Nat), e = .returned (.tuple #[.slice A n cap, .int .i64 (ptC2 c lo hi)]) ∧ Rd .i64 w' A (ptL c (fun L i => spV c sts (L : Int) i) lo hi) ∧ (ptL c (fun L i => spV c sts (L : Int) i) lo hi).length = n ∧ n ≤ cap ∧ cap ≤ maxLen ∧ Below w.heap.size w w' := by
  have e1 : ptC2 c lo hi = 2 := by unfold ptC2; rw [if_neg h1, if_pos h2]
  have e2 : ptL c (fun L i => spV c sts (L : Int) i) lo hi = [] := by unfold ptL; rw [if_neg (by rw [e1]; decide)]
  have hok : okC c.bt lo hi = false := by rw [ptc_ok h.1 hi0, e1]; rfl
  have hb0 := h.1.1
  have hb1 := h.1.2.1
  rw [e1, e2]
  have HS := Lib.hid h
  have CC := Lib.hid (fun w => ccover_any c.bt lo hi w (by omega) (by omega) lo0 lo1 hi0 hi1)
  have f1 : decide (hi < lo) = false := decide_eq_false h1
  have hfd := fld_bt c
  clear h e1 e2 lo0 lo1 hi0 hi1 h2 hb0 hb1
  go_enter Tryz.func14, Tryz.ntmps14
  go_wp2_with (first
    | (go_at_call 40; (with_reducible refine (cs_config p F c sts _ HS.out).mono ?_); rintro e w1 ⟨rfl, hbe1⟩)
    | (go_at_call 39; (with_reducible refine (CC.out _).mono ?_); rintro e w2 ⟨A, n, cap, l, rfl, hI, hF, hbe2, -, -⟩; rw [hok]))
  refine bodyPost_ret (v := .tuple #[.slice none 0 0, .int .i64 2]) (by simp [results, Tryz.results14, go_sem]) rfl ?_
  exact ⟨none, 0, 0, rfl, fun j v hv => by simp at hv, rfl, Nat.le_refl _, by decide, hbe1.trans (hbe2.mono hbe1.size)⟩
theorem own_any16 {w : World} {B : Nat} {e : TypeId} {hdr : Value} {vals : List Value} (h : (ownT B e hdr vals).I w) : ∃ (A : Option Addr) (cap : Nat), hdr = .slice A vals.length cap ∧ vals.length ≤ cap ∧ cap ≤ maxLen ∧ ∀ (j : Nat) (v : Value), vals[j]? = some v → ∃ a, A = some a ∧ w.cell? (a.add j) = some v := by
  have h1 : w.ownsRow B e 1 hdr vals.length vals := h
  rcases h1.2 with h0 | ⟨g, cap, cur, rfl, h2, h3, h4, h5, h6⟩
  · have h2 := h0.2
    have h3 : vals = [] := List.eq_nil_of_length_eq_zero (by omega)
    subst h3
    exact ⟨none, 0, h0.1, Nat.le_refl _, by decide, fun j v hj => by simp at hj⟩
  · exact ⟨some ⟨g, 0, none⟩, cap, rfl, h4, by assumption, fun j v hj => ⟨_, rfl, h1.cells (g := g) rfl j v hj⟩⟩
theorem kept_put {m : Nat} {F : Nat → Prop} (hm : ∀ k, m ≤ k → F k) (W : World) (l : Nat) (o o' : Obj) (hl : m ≤ l) (h1 : W.heap[l]? = some o) (h2 : o.isCells = false) (h3 : o.isWalk = false) : Kept F W (W.putObj l o') :=
  ⟨rfl, rfl, rfl, by simp, fun k hk hF => World.putObj_heap_other (fun e => hF (hm k (by omega)))⟩
/-- What was gathered. -/
def gotV (c : Cfg) (sts : List LS) (l : List (Nat × Nat)) (pre : List (Lof l.length)) : List Value := pre.map (fun x => .int .i64 (spV c sts ((l[x.1]'x.2).1 : Int) ((l[x.1]'x.2).2 : Int)))
theorem got_all {c : Cfg} {sts : List LS} {l : List (Nat × Nat)} {xs : List (Lof l.length)} (hup : UpTo xs) (hl : xs.length = l.length) : gotV c sts l xs = (l.map (fun p => spV c sts ((p.1 : Nat) : Int) ((p.2 : Nat) : Int))).map (Value.int .i64) := by
  refine List.ext_getElem? (fun i => ?_)
  unfold gotV
  rw [List.getElem?_map, List.getElem?_map, List.getElem?_map]
  by_cases hi : i < xs.length
  · obtain ⟨x, hx⟩ : ∃ x, xs[i]? = some x := ⟨_, List.getElem?_eq_getElem hi⟩
    have h3 : (xs.map (fun x => x.1))[i]? = some x.1 := by rw [List.getElem?_map, hx]; rfl
    rw [hup, List.getElem?_range (by omega)] at h3
    injection h3 with h3
    have h4 : l[i]? = some (l[x.1]'x.2) := by rw [h3]; exact List.getElem?_eq_getElem x.2
    rw [hx, h4]
    rfl
  · rw [List.getElem?_eq_none (by omega), List.getElem?_eq_none (by omega)]
    rfl
set_option maxRecDepth 100000 in
set_option maxHeartbeats 2000000 in
theorem sp_parts_3 (p : Addr) (F : Nat → Prop) (c : Cfg) (sts : List LS) (lo hi : Int) (w : World) (h : ST w p F c sts) (lo0 : 0 ≤ lo) (lo1 : lo ≤ 18446744073709551615) (hi0 : 0 ≤ hi) (hi1 : hi ≤ 18446744073709551615) (h1 : ¬ hi < lo) (h2 : ¬ keys c 0 ≤ hi) :
    Calls Tryz.prog 14 #[.pointer (some p), .int .u64 lo, .int .u64 hi] w fun e w' => ∃ (A : Option Addr) (n cap : Nat), e = .returned (.tuple #[.slice A n cap, .int .i64 (ptC2 c lo hi)]) ∧ Rd .i64 w' A (ptL c (fun L i => spV c sts (L : Int) i) lo hi) ∧ (ptL c (fun L i => spV c sts (L : Int) i) lo hi).length = n ∧ n ≤ cap ∧ cap ≤ maxLen ∧ Below w.heap.size w w' := by
  have e1 : ptC2 c lo hi = 0 := by unfold ptC2; rw [if_neg h1, if_neg h2]
  have e2 : ptL c (fun L i => spV c sts (L : Int) i) lo hi = parts c (fun L i => spV c sts (L : Int) i) lo hi := by unfold ptL; rw [if_pos e1]
  have e3 := parts_len16 h.1 (fun L i => spV c sts (L : Int) i) lo hi lo0
  have hok : okC c.bt lo hi = true := by rw [ptc_ok h.1 hi0, e1]; rfl
  have hb0 := h.1.1
  have hb1 := h.1.2.1
  rw [e2] at e3
  rw [e1, e2]
  have HS := Lib.hid h
  have HLEN := Lib.hid e3
  have CC := Lib.hid (fun w => ccover_any c.bt lo hi w (by omega) (by omega) lo0 lo1 hi0 hi1)
  have f1 : decide (hi < lo) = false := decide_eq_false h1
  have hfd := fld_bt c
  clear h e1 e2 e3 lo0 lo1 hi0 hi1 h2 hb0 hb1
  refine (callsIn_wide (n := 9)).1 ?_
  refine callsIn_of_wp_marks Tryz.func14 rfl trivial ?_ rfl
  simp only [Tryz.ntmps14, List.size_toArray, List.length_cons, List.length_nil, Nat.reduceAdd, Nat.reduceSub, Array.replicate_succ, Array.replicate_zero, List.push_toArray, List.append_toArray, List.nil_append, List.cons_append]
  gi_wp2_with (first
    | (refine ⟨trivial, ?_⟩; gi_at_call 40; refine (callsIn_wide.2 (cs_config p F c sts _ HS.out)).mono ?_; rintro e w1 ⟨rfl, hbe1⟩)
    | (refine ⟨trivial, ?_⟩; gi_at_call 39; refine (callsIn_wide.2 (CC.out _)).mono ?_; rintro e w2 ⟨A, n, cap, l, rfl, hI, hF, hbe2, hcov, -⟩; rw [hok])
    | (refine ⟨trivial, ?_⟩; gi_at_call 42; refine (callsIn_wide.2 (told_any _ _ _ _ _)).mono ?_; rintro e w3 ⟨rfl, rfl⟩))
  have hpl : l.length ≤ 1000 ∧ parts c (fun L i => spV c sts (L : Int) i) lo hi = l.map (fun q => spV c sts ((q.1 : Nat) : Int) ((q.2 : Nat) : Int)) := by
    have h5 := HLEN.out
    unfold parts at h5 ⊢
    rw [covL_eq (hcov hok)] at h5 ⊢
    rw [List.length_map] at h5
    exact ⟨h5, rfl⟩
  obtain ⟨hl1, hl2⟩ := hpl
  have HL2 := Lib.hid hl2
  have HI := Lib.hid hI
  have hFs : ∀ k, F k → k < w.heap.size := fun k hk => (stT p F c sts).lt w HS.out k hk
  have hPc : ∀ k, (pcT A n cap (ints l)).F k → k < w2.heap.size := fun k hk => (pcT A n cap (ints l)).lt w2 HI.out k hk
  have hsz1 := hbe1.size
  have hsz2 := hbe2.size
  have W1 := Lib.hid (hbe1.trans (hbe2.mono hbe1.size))
  clear hI hF hcov hl2
  have P0 : HoldC (fun _ => False) w2 w2 [] := HoldC.start0 (Below.refl _ w2)
  have P1 := P0.push (ownT (w2.heap.size + 4) 2 (.slice none 0 0) []) (Below.refl _ _) (own_nil _ _ _) (fun k hk => own_nilF _ _ hk) (cel_own (own_nil _ _ _))
  have hx1 := heap_alloc_new w2 (.cells #[.slice none 0 0] 39)
  have P2 := P1.push (boxT w2.heap.size 39 #[.slice none 0 0]) (Lw.below_alloc (Below.refl _ _) _) hx1 (fun k hk => Nat.le_of_eq hk.symm) (cel_box hx1)
  have hx2 := heap_alloc_new (w2.alloc (.cells #[.slice none 0 0] 39)) (.cells #[.func (.func 41) #[] #[.pointer (some ⟨w2.heap.size, 0, none⟩)]] 85)
  have hx3 := heap_alloc_new ((w2.alloc (.cells #[.slice none 0 0] 39)).alloc (.cells #[.func (.func 41) #[] #[.pointer (some ⟨w2.heap.size, 0, none⟩)]] 85)) (.cells #[.pointer (some p)] 30)
  have hx4 := heap_alloc_new (((w2.alloc (.cells #[.slice none 0 0] 39)).alloc (.cells #[.func (.func 41) #[] #[.pointer (some ⟨w2.heap.size, 0, none⟩)]] 85)).alloc (.cells #[.pointer (some p)] 30)) (.cells #[.slice A n cap] 51)
  simp only [World.size_alloc] at hx2 hx3 hx4
  have P3 := P2.push (boxT (w2.heap.size + 1) 85 #[.func (.func 41) #[] #[.pointer (some ⟨w2.heap.size, 0, none⟩)]]) (Lw.below_alloc (Below.refl _ _) _) hx2 (fun k hk => Nat.le_of_eq (by simp; exact hk.symm)) (cel_box hx2)
  have P4 := P3.push (boxT (w2.heap.size + 1 + 1) 30 #[.pointer (some p)]) (Lw.below_alloc (Below.refl _ _) _) hx3 (fun k hk => Nat.le_of_eq (by simp; exact hk.symm)) (cel_box hx3)
  have P5 := P4.push (boxT (w2.heap.size + 1 + 1 + 1) 51 #[.slice A n cap]) (Lw.below_alloc (Below.refl _ _) _) hx4 (fun k hk => Nat.le_of_eq (by simp; exact hk.symm)) (cel_box hx4)
  clear P0 P1 P2 P3 P4 hx1 hx2 hx3 hx4
  have BB : Below w2.heap.size w2 ((((w2.alloc (.cells #[.slice none 0 0] 39)).alloc (.cells #[.func (.func 41) #[] #[.pointer (some ⟨w2.heap.size, 0, none⟩)]] 85)).alloc (.cells #[.pointer (some p)] 30)).alloc (.cells #[.slice A n cap] 51)) := Lw.below_alloc (Lw.below_alloc (Lw.below_alloc (Lw.below_alloc (Below.refl _ _) _) _) _) _
  obtain ⟨W0, hW0⟩ : ∃ W0, ((((w2.alloc (.cells #[.slice none 0 0] 39)).alloc (.cells #[.func (.func 41) #[] #[.pointer (some ⟨w2.heap.size, 0, none⟩)]] 85)).alloc (.cells #[.pointer (some p)] 30)).alloc (.cells #[.slice A n cap] 51)) = W0 := ⟨_, rfl⟩
  have hsz : W0.heap.size = w2.heap.size + 4 := by rw [← hW0]; simp
  rw [hW0] at P5 BB ⊢
  clear hW0
  refine wpIn_rangeFunc_ownG rfl (by omega) (gf := 67) (lb := #[.pointer (some ⟨w2.heap.size + 1 + 1 + 1, 0, none⟩), .pointer (some ⟨w2.heap.size + 1 + 1, 0, none⟩)]) (S := fun xs => UpTo xs ∧ xs.length = l.length) (Sp := UpTo) (N := l.length) (encs := encP c sts l) (Kp := Kept (fun k => k = w2.heap.size ∨ W0.heap.size ≤ k)) (w0 := W0) rfl trivial (enters_of Tryz.func67 (by kernel_rfl) rfl)
    (fun lp J Jx W hW hJ hJx hY h0 => told_iter (9 - 1) (by omega) c sts p F (fun k => k = w2.heap.size ∨ W0.heap.size ≤ k) lp (w2.heap.size + 1 + 1 + 1) (w2.heap.size + 1 + 1) n cap A l hl1 J Jx W hJ hY (HS.out.up (W1.out.trans ((BB.trans (hW.mono BB.size)).mono (by omega)))) (fun k hk h => by have := hFs k hk; omega) (cell_up (box_cell (P5.i (t := boxT (w2.heap.size + 1 + 1 + 1) 51 #[.slice A n cap]) (by simp)) (i := 0) rfl) hW) (by omega) (cell_up (box_cell (P5.i (t := boxT (w2.heap.size + 1 + 1) 30 #[.pointer (some p)]) (by simp)) (i := 0) rfl) hW) (by omega) ((pcT A n cap (ints l)).keep w2 W (fun _ => False) HI.out (Kept.of_below (BB.trans (hW.mono BB.size))) (fun _ _ h => h)) (fun k hk h => by have := hPc k hk; omega) h0)
    (fun h k => h.trans k (fun _ _ h => h)) (fun W lp o o' hl h1 h2 h3 => kept_put (fun k hk => .inr hk) W lp o o' hl h1 h2 h3) (Below.refl _ _) (fun _ => rfl)
    (fun pre W => ∃ hdr, HoldC (fun _ => False) w2 W ([boxT (w2.heap.size + 1 + 1 + 1) 51 #[.slice A n cap], boxT (w2.heap.size + 1 + 1) 30 #[.pointer (some p)], boxT (w2.heap.size + 1) 85 #[.func (.func 41) #[] #[.pointer (some ⟨w2.heap.size, 0, none⟩)]]] ++ boxT w2.heap.size 39 #[hdr] :: ownT (w2.heap.size + 4) 2 hdr (gotV c sts l pre) :: []))
    (fun _ _ _ => False)
    (by
      rintro s X Y row ⟨hdr, h⟩ hg hr
      exact ⟨hdr, HoldC.own (by omega) (fun (_ : Unit) => _) () X Y row h hg hr⟩)
    (fun _ _ _ _ _ hs _ _ => hs)
    ⟨_, P5⟩
    (fun x => { tmps := #[.pointer (some p), .int .u64 lo, .int .u64 hi, undef, undef, undef, .slice none 0 0, .int .i64 0, .slice A n cap, .bool true, .pointer (some ⟨w2.heap.size, 0, none⟩), .pointer (some ⟨w2.heap.size + 1, 0, none⟩), .int .i64 (spV c sts ((l[x.1]'x.2).1 : Int) ((l[x.1]'x.2).2 : Int)), .int .u64 lo, .int .u64 hi, .bool false, .tuple #[.slice A n cap, .bool true], .pointer (some p), .agg #[.int .i64 c.bt, .int .i64 c.rw, .int .i64 c.wd, .int .i64 c.md, .int .u64 c.sd], .int .i64 c.bt, .int .u64 lo, .int .u64 hi, .tuple #[.slice A n cap, .bool true], .slice A n cap, .bool true, .bool true, .bool false, .func (.func 41) #[] #[.pointer (some ⟨w2.heap.size, 0, none⟩)], .pointer (some p), .slice A n cap, .func (.func 67) #[] #[.pointer (some ⟨w2.heap.size + 1 + 1 + 1, 0, none⟩), .pointer (some ⟨w2.heap.size + 1 + 1, 0, none⟩)], .int .i64 (spV c sts ((l[x.1]'x.2).1 : Int) ((l[x.1]'x.2).2 : Int)), undef, undef, undef, undef], defers := [] }) ?assign ?body ?done ?stop
  case assign =>
    intro lp x W K hK
    simp only [encP]
    gi_wp2
    exact hK
  case body =>
    rintro lp pre x W ⟨hdr, hh⟩ hlen
    have b1 := box_cell (hh.i (t := boxT (w2.heap.size + 1) 85 #[.func (.func 41) #[] #[.pointer (some ⟨w2.heap.size, 0, none⟩)]]) (by simp)) (i := 0) rfl
    have hsw : w2.heap.size + 4 ≤ W.heap.size := by
      have := box_lt (hh.i (t := boxT (w2.heap.size + 1 + 1 + 1) 51 #[.slice A n cap]) (by simp))
      omega
    gi_wp2_with (refine ⟨trivial, ?_⟩; gi_at_call 41; refine (CallsIn.inRound lp (callsIn_wide.2 (gather_any w2.heap.size (w2.heap.size + 4) (fun _ => False) w2 W hdr (gotV c sts l pre) _ _ [] hh (by unfold gotV; rw [List.length_map]; omega) hsw))).mono ?_; rintro e W3 ⟨hdr3, rfl, hh3, hk3, ho3⟩)
    refine ⟨ho3.from _, by rw [hsz]; exact hk3, hdr3, ?_⟩
    have e7 : gotV c sts l (pre ++ [x]) = gotV c sts l pre ++ [.int .i64 (spV c sts ((l[x.1]'x.2).1 : Int) ((l[x.1]'x.2).2 : Int))] := by unfold gotV; rw [List.map_append]; rfl
    rw [e7]
    exact hh3
  case done =>
    rintro D ys W hD ⟨hup, hyl⟩ ⟨hdr, hh⟩ hK
    have o1 := box_cell (hh.i (t := boxT w2.heap.size 39 #[hdr]) (by simp)) (i := 0) rfl
    gi_wp2
    refine ⟨by simp, .inl ⟨_, _, rfl, run_takeDeferred hK, ?_⟩⟩
    have hs2 := HoldC.own (B := W0.heap.size) (by omega) (fun (_ : Unit) => _) () _ _ _ hh (grownBy_putObj' _ D (.deferred none)) (fun r e => by cases e; exact ⟨hD, _, hK, rfl⟩)
    obtain ⟨A2, cap2, rfl, g1, g2, g3⟩ := own_any16 (hs2.i (t := ownT (w2.heap.size + 4) 2 hdr (gotV c sts l ys)) (by simp))
    have e8 := got_all (c := c) (sts := sts) hup hyl
    have e9 : (gotV c sts l ys).length = l.length := by rw [e8]; simp
    rw [HL2.out]
    refine ⟨_, ?_, A2, (gotV c sts l ys).length, cap2, rfl, fun j v hj => g3 j _ (by rw [e8, List.getElem?_map, hj]; rfl), by rw [e9]; simp, g1, g2, W1.out.trans (hs2.1.1.below.mono (by omega))⟩
    simp [results, Tryz.results14, go_sem]
  case stop =>
    rintro D j pre W _ _ h _
    exact h.elim
theorem sp_parts (p : Addr) (F : Nat → Prop) (c : Cfg) (sts : List LS) (lo hi : Int) (w : World) (h : ST w p F c sts) (lo0 : 0 ≤ lo) (lo1 : lo ≤ 18446744073709551615) (hi0 : 0 ≤ hi) (hi1 : hi ≤ 18446744073709551615) :
    Calls Tryz.prog 14 #[.pointer (some p), .int .u64 lo, .int .u64 hi] w fun e w' => ∃ (A : Option Addr) (n cap : Nat), e = .returned (.tuple #[.slice A n cap, .int .i64 (ptC2 c lo hi)]) ∧ Rd .i64 w' A (ptL c (fun L i => spV c sts (L : Int) i) lo hi) ∧ (ptL c (fun L i => spV c sts (L : Int) i) lo hi).length = n ∧ n ≤ cap ∧ cap ≤ maxLen ∧ Below w.heap.size w w' := by
  by_cases h1 : hi < lo
  · exact sp_parts_1 p F c sts lo hi w h h1
  · by_cases h2 : keys c 0 ≤ hi
    · exact sp_parts_2 p F c sts lo hi w h lo0 lo1 hi0 hi1 h1 h2
    · exact sp_parts_3 p F c sts lo hi w h lo0 lo1 hi0 hi1 h1 h2
set_option maxRecDepth 100000 in
set_option maxHeartbeats 2000000 in
theorem sp_range (p : Addr) (F : Nat → Prop) (c : Cfg) (sts : List LS) (lo hi : Int) (w : World) (h : ST w p F c sts) (lo0 : 0 ≤ lo) (lo1 : lo ≤ 18446744073709551615) (hi0 : 0 ≤ hi) (hi1 : hi ≤ 18446744073709551615) :
    Calls Tryz.prog 16 #[.pointer (some p), .int .u64 lo, .int .u64 hi] w fun e w' => e = .returned (.tuple #[.int .i64 (rgV c (fun L i => spV c sts (L : Int) i) lo hi), .int .i64 (rgC c (fun L i => spV c sts (L : Int) i) lo hi)]) ∧ Below w.heap.size w w' := by
  have CP := Lib.hid (fun w h => sp_parts p F c sts lo hi w h lo0 lo1 hi0 hi1)
  have HS := Lib.hid h
  have HL := Lib.hid (parts_len16 h.1 (fun L i => spV c sts (L : Int) i) lo hi lo0)
  have HI := Lib.hid (parts_in16 h lo hi)
  clear h lo0 lo1 hi0 hi1
  by_cases hc : ptC2 c lo hi = 0
  · have e2 : ptL c (fun L i => spV c sts (L : Int) i) lo hi = parts c (fun L i => spV c sts (L : Int) i) lo hi := by unfold ptL; rw [if_pos hc]
    rw [e2] at HL HI
    have HC := Lib.hid hc
    have HE2 := Lib.hid e2
    obtain ⟨fb, hfb⟩ : ∃ fb, Wid.fit64 (parts c (fun L i => spV c sts (L : Int) i) lo hi).sum = fb := ⟨_, rfl⟩
    have HFB := Lib.hid hfb
    have HV : Hid (rgC c (fun L i => spV c sts (L : Int) i) lo hi = (if fb = true then 0 else 4) ∧ rgV c (fun L i => spV c sts (L : Int) i) lo hi = (if fb = true then (parts c (fun L i => spV c sts (L : Int) i) lo hi).sum else 0)) := Lib.hid (by
      have e5 : rgC c (fun L i => spV c sts (L : Int) i) lo hi = (if fb = true then 0 else 4) := by unfold rgC; rw [if_pos hc, hfb]
      refine ⟨e5, ?_⟩
      unfold rgV
      rw [e5]
      cases fb <;> simp)
    rw [HV.out.1, HV.out.2]
    clear HV hc e2 hfb
    cases fb with
    | true =>
      have e6 : Wid.f64 (parts c (fun L i => spV c sts (L : Int) i) lo hi).sum = (parts c (fun L i => spV c sts (L : Int) i) lo hi).sum := by unfold Wid.f64; rw [if_pos HFB.out]
      have HE6 := Lib.hid e6
      clear e6
      go_enter Tryz.func16, Tryz.ntmps16
      go_wp2_with (first
        | (go_at_call 14; (refine (CP.out _ HS.out).mono ?_); rintro e w1 ⟨A, n, cap, rfl, hr1, hl1, hn1, hm1, hb1⟩; rw [HC.out]; rw [HE2.out] at hr1 hl1)
        | (go_at_call 44; (refine (Wid.sum_any A n cap _ _ hr1 hl1 (by rw [← hl1]; exact HL.out) HI.out).mono ?_); rintro e w2 ⟨rfl, hb2⟩; rw [HFB.out, HE6.out]))
      refine bodyPost_ret (v := .tuple #[.int .i64 (parts c (fun L i => spV c sts (L : Int) i) lo hi).sum, .int .i64 0]) (by simp [results, Tryz.results16, go_sem]) rfl ?_
      exact ⟨rfl, hb1.trans (hb2.mono hb1.size)⟩
    | false =>
      have e6 : Wid.f64 (parts c (fun L i => spV c sts (L : Int) i) lo hi).sum = 0 := by unfold Wid.f64; rw [if_neg (by rw [HFB.out]; decide)]
      have HE6 := Lib.hid e6
      clear e6
      go_enter Tryz.func16, Tryz.ntmps16
      go_wp2_with (first
        | (go_at_call 14; (refine (CP.out _ HS.out).mono ?_); rintro e w1 ⟨A, n, cap, rfl, hr1, hl1, hn1, hm1, hb1⟩; rw [HC.out]; rw [HE2.out] at hr1 hl1)
        | (go_at_call 44; (refine (Wid.sum_any A n cap _ _ hr1 hl1 (by rw [← hl1]; exact HL.out) HI.out).mono ?_); rintro e w2 ⟨rfl, hb2⟩; rw [HFB.out, HE6.out]))
      refine bodyPost_ret (v := .tuple #[.int .i64 0, .int .i64 4]) (by simp [results, Tryz.results16, go_sem]) rfl ?_
      exact ⟨rfl, hb1.trans (hb2.mono hb1.size)⟩
  · have e5 : rgC c (fun L i => spV c sts (L : Int) i) lo hi = ptC2 c lo hi := by unfold rgC; rw [if_neg hc]
    have e6 : rgV c (fun L i => spV c sts (L : Int) i) lo hi = 0 := by unfold rgV; rw [e5, if_neg hc]
    rw [e5, e6]
    clear e5 e6
    obtain ⟨C, hC⟩ : ∃ C, ptC2 c lo hi = C := ⟨_, rfl⟩
    have HC := Lib.hid hC
    rw [hC] at hc ⊢
    clear hC
    go_enter Tryz.func16, Tryz.ntmps16
    go_wp2_with (go_at_call 14; (refine (CP.out _ HS.out).mono ?_); rintro e w1 ⟨A, n, cap, rfl, hr1, hl1, hn1, hm1, hb1⟩; rw [HC.out])
    refine bodyPost_ret (v := .tuple #[.int .i64 0, .int .i64 C]) (by simp [results, Tryz.results16, go_sem]) rfl ?_
    exact ⟨rfl, hb1⟩
set_option maxRecDepth 100000 in
set_option maxHeartbeats 2000000 in
theorem sp_rank (p : Addr) (F : Nat → Prop) (c : Cfg) (sts : List LS) (hi : Int) (w : World) (h : ST w p F c sts) (hi0 : 0 ≤ hi) (hi1 : hi ≤ 18446744073709551615) :
    Calls Tryz.prog 18 #[.pointer (some p), .int .u64 hi] w fun e w' => e = .returned (.tuple #[.int .i64 (rgV c (fun L i => spV c sts (L : Int) i) 0 hi), .int .i64 (rgC c (fun L i => spV c sts (L : Int) i) 0 hi)]) ∧ Below w.heap.size w w' := by
  have CP := Lib.hid (fun w h => sp_range p F c sts 0 hi w h (by omega) (by omega) hi0 hi1)
  have HS := Lib.hid h
  clear h hi0 hi1
  go_enter Tryz.func18, Tryz.ntmps18
  go_wp2_with (go_at_call 16; (refine (CP.out _ HS.out).mono ?_); rintro e w1 ⟨rfl, hb1⟩)
  refine bodyPost_ret (v := .tuple #[.int .i64 (rgV c (fun L i => spV c sts (L : Int) i) 0 hi), .int .i64 (rgC c (fun L i => spV c sts (L : Int) i) 0 hi)]) (by simp [results, Tryz.results18, go_sem]) rfl ?_
  exact ⟨rfl, hb1⟩
end Go.Proofs.YtbifihhfoanmgaaGreat.Spn
/- fed of layer 15's laws. Printed by wip/gen/stk.py. -/
namespace Go.Proofs.YtbifihhfoanmgaaGreat.Stk
open Go Go.RowKit Lw Grd Lin Con Shp Sk Exa Lev
set_option linter.unusedVariables false
set_option linter.unusedSimpArgs false
theorem box6 {w : World} {b : Nat} {e : TypeId} {v0 v1 v2 v3 v4 v5 : Value} (h : (boxT b e #[v0, v1, v2, v3, v4, v5]).I w) : w.cell? ⟨b, 0, none⟩ = some v0 ∧ w.cell? ⟨b, 1, none⟩ = some v1 ∧ w.cell? ⟨b, 2, none⟩ = some v2 ∧ w.cell? ⟨b, 3, none⟩ = some v3 ∧ w.cell? ⟨b, 4, none⟩ = some v4 ∧ w.cell? ⟨b, 5, none⟩ = some v5 :=
  ⟨box_cell h rfl, box_cell h rfl, box_cell h rfl, box_cell h rfl, box_cell h rfl, box_cell h rfl⟩
end Go.Proofs.YtbifihhfoanmgaaGreat.Stk
/- fed of layer 16's laws. Printed by wip/gen/spn2.py. -/
namespace Go.Proofs.YtbifihhfoanmgaaGreat.Spn
open Go Go.RowKit Lw Grd Lin Con Shp Sk Exa Lev Stk Pcs
set_option linter.unusedVariables false
set_option linter.unusedSimpArgs false
def loK (c : Cfg) (a b : Int) : Int := min (a % keys c 0) (b % keys c 0)
def hiK (c : Cfg) (a b : Int) : Int := max (a % keys c 0) (b % keys c 0)
theorem lohi {c : Cfg} (h : 1 ≤ keys c 0) (a b : Int) : 0 ≤ loK c a b ∧ loK c a b ≤ hiK c a b ∧ hiK c a b < keys c 0 := by
  have h1 := Int.emod_nonneg a (show keys c 0 ≠ 0 by omega)
  have h2 := Int.emod_nonneg b (show keys c 0 ≠ 0 by omega)
  have h3 := Int.emod_lt_of_pos a (show 0 < keys c 0 by omega)
  have h4 := Int.emod_lt_of_pos b (show 0 < keys c 0 by omega)
  unfold loK hiK
  omega
set_option maxRecDepth 100000 in
set_option maxHeartbeats 8000000 in
theorem fed_z (x : Cfg) (A : Option Addr) (n0 k0 : Nat) (qs : Ups) (a b : Int) (c : Cfg) (w : World) (hx : x.Ok) (hq : UpdV w A n0 k0 qs) (a0 : 0 ≤ a) (a1 : a ≤ 18446744073709551615) (b0 : 0 ≤ b) (b1 : b ≤ 18446744073709551615) (hC : anyC x 10 9 = c) :
    Calls Tryz.prog 20 #[.agg #[.int .i64 x.bt, .int .i64 x.rw, .int .i64 x.wd, .int .i64 x.md, .int .u64 x.sd, .slice A n0 k0], .int .i64 10, .int .i64 0, .int .u64 a, .int .u64 b] w fun e w' => ∃ (p : Addr) (F : Nat → Prop), e = .returned (.tuple #[.pointer (some p), .agg #[.int .i64 c.bt, .int .i64 c.rw, .int .i64 c.wd, .int .i64 c.md, .int .u64 c.sd], .int .u64 (loK c a b), .int .u64 (hiK c a b)]) ∧ Have w w' [stT p F c (stsOf c (upsR c 0 qs 0 60))] := by
  have hr0 := any_right x 10 9 (by omega) (by omega) (by omega) (by omega)
  have hco0 := any_ok x hx 10 9 (by omega) (by omega) (by omega) (by omega)
  rw [hC] at hr0 hco0
  have hr := hr0
  have hco := hco0
  have CA := Lib.hid (fun w => rany_at x 10 9 c w hx (by omega) (by omega) (by omega) (by omega) hC)
  have hbt := hr.1
  have hkeys : 1 ≤ keys c 0 := keys_pos.2 ⟨hr, by omega, by omega⟩
  have CNW := Lib.hid (fun w => cs_new c w hco hr)
  have CK := Lib.hid (fun w => rkeys_any c 0 w hco (by omega) (by omega))
  obtain ⟨Z, hZ⟩ : ∃ Z, stsOf c [] = Z := ⟨_, rfl⟩
  rw [hZ] at CNW
  have hst0 : stsOf c (upsR c 0 qs 0 0) = Z := by rw [upsR_zero]; exact hZ
  have HQ := Lib.hid hq
  have HL := Lib.hid hq.len
  have hnc := hq.nc
  have hcm := hq.cm
  unfold maxLen at hcm
  have HR := Lib.hid hr
  have HKY := Lib.hid hkeys
  have CC0 := Lib.hid (fun w k d h0 h1 h2 h3 => rcut15_any c k d w hco h0 h1 h2 h3 hkeys)
  have HBX : Hid (Have w ((w.alloc (.cells #[.int .i64 x.bt, .int .i64 x.rw, .int .i64 x.wd, .int .i64 x.md, .int .u64 x.sd, .slice A n0 k0] 27)).alloc (.cells #[.int .i64 0, .int .i64 0, .int .i64 0, .int .i64 0, .int .u64 0] 24)) [boxT (w.heap.size + 1) 24 #[.int .i64 0, .int .i64 0, .int .i64 0, .int .i64 0, .int .u64 0], boxT w.heap.size 27 #[.int .i64 x.bt, .int .i64 x.rw, .int .i64 x.wd, .int .i64 x.md, .int .u64 x.sd, .slice A n0 k0]]) := Lib.hid (two_boxs w _ _ _ _)
  have HKB := Lib.hid (keys_bd c 0)
  have HLO := Lib.hid (show min (a % keys c 0) (b % keys c 0) = loK c a b from rfl)
  have HHI := Lib.hid (show max (a % keys c 0) (b % keys c 0) = hiK c a b from rfl)
  obtain ⟨LO, hLO⟩ : ∃ v, loK c a b = v := ⟨_, rfl⟩
  obtain ⟨HI, hHI⟩ : ∃ v, hiK c a b = v := ⟨_, rfl⟩
  rw [hLO] at HLO ⊢
  rw [hHI] at HHI ⊢
  obtain ⟨K, hK⟩ : ∃ v, keys c 0 = v := ⟨_, rfl⟩
  rw [hK] at CK HKB HLO HHI
  have hK0 : ¬ K = 0 := by omega
  clear hC hq hr hkeys hco hx hZ hr0 hco0 hLO hHI hK
  go_enter Tryz.func20, Tryz.ntmps20
  go_wp2_with (first
    | (go_at_call 10; (with_reducible refine (CNW.out _).mono ?_); rintro e w4 ⟨p, F, rfl, hsk, hfr, hb⟩; have HV4 := Lib.hid (HV3.out.push (stT p F c Z) hb hsk hfr); clear hsk hfr hb)
    | (go_at_call 26; (with_reducible refine (CK.out _).mono ?_); rintro e w3 ⟨rfl, hb⟩; have HV3 := Lib.hid (HV2.out.up hb); clear hb; obtain ⟨y0, y1, y2, y3, y4⟩ := box5 HV3.out.i0)
    | (go_at_call 9; (with_reducible refine (CA.out _).mono ?_); rintro e w1 ⟨rfl, hb⟩; have HV1 := Lib.hid (HBX.out.up hb); obtain ⟨x0, x1, x2, x3, x4, x5⟩ := box6 HV1.out.i1; have hl0 := box_lt HV1.out.i1; have hl1 := box_lt HV1.out.i0; have HV2 := Lib.hid (HV1.out.push (boxT w1.heap.size 24 #[.int .i64 c.bt, .int .i64 c.rw, .int .i64 c.wd, .int .i64 c.md, .int .u64 c.sd]) (Lw.below_alloc (Below.refl _ _) _) (heap_alloc_new w1 _) (fun k hk => Nat.le_of_eq hk.symm)); clear hb))
  obtain ⟨g1, hg1⟩ : ∃ g1, w1.heap.size = g1 := ⟨_, rfl⟩
  rw [hg1] at HV4 ⊢
  clear hg1 hl0 hl1 x0 x1 x2 x3 x4 x5 y0 y1 y2 y3 y4
  go_loopw [18] (fun iv wr => ∃ (k : Nat) (F : Nat → Prop), k ≤ 60 ∧ (k ≤ n0 ∨ k = 0) ∧ iv = .int .i64 k ∧ Have w wr [stT p F c (stsOf c (upsR c 0 qs 0 k)), boxT g1 24 #[.int .i64 c.bt, .int .i64 c.rw, .int .i64 c.wd, .int .i64 c.md, .int .u64 c.sd], boxT (w.heap.size + 1) 24 #[.int .i64 0, .int .i64 0, .int .i64 0, .int .i64 0, .int .u64 0], boxT w.heap.size 27 #[.int .i64 x.bt, .int .i64 x.rw, .int .i64 x.wd, .int .i64 x.md, .int .u64 x.sd, .slice A n0 k0]]) (fun iv _ => 60 - (intOf iv).toNat)
  case atStart => exact ⟨0, F, Nat.zero_le _, .inr rfl, rfl, by rw [hst0]; exact HV4.out⟩
  case round =>
    obtain ⟨k, F, hk1, hk2, rfl, hv⟩ := hrel
    have HVr := Lib.hid hv
    have hwb := hv.below
    clear hv hst0
    obtain ⟨x0, x1, x2, x3, x4, c0⟩ := box6 HVr.out.i3
    by_cases hlt : k < n0 ∧ k < 60
    · obtain ⟨hj1, hj2⟩ := hlt
      obtain ⟨q, hq1⟩ : ∃ q, qs[k]? = some q := ⟨_, List.getElem?_eq_getElem (by rw [HL.out]; omega)⟩
      have hnx := upsR_next (c := c) (l := 0) hq1 (Nat.zero_le k)
      have hst := stsOf_step HR.out (upsR_in HKY.out qs 0 k) (by have := upsR_len c 0 qs 0 k; omega) (upsIn_cut HKY.out [q])
      have hcu := cutU_ok HKY.out q
      obtain ⟨aa, g, o, rfl, hadd, d1w, d2w, kb, db⟩ := HQ.out.at hq1
      obtain ⟨qk, qd⟩ := q
      simp only at d1w d2w kb db
      have d1 := cell_up d1w hwb
      have d2 := cell_up d2w hwb
      obtain ⟨e1, e2, e3, e4, e5⟩ := box5 HVr.out.i1
      have CC := Lib.hid (fun w => CC0.out w qk qd kb.1 kb.2 db.1 db.2)
      obtain ⟨us, hus⟩ : ∃ us, stsOf c (upsR c 0 qs 0 k) = us := ⟨_, rfl⟩
      obtain ⟨us2, hus2⟩ : ∃ us2, stsOf c (upsR c 0 qs 0 (k + 1)) = us2 := ⟨_, rfl⟩
      rw [hus] at HVr hst
      rw [hnx] at hus2
      rw [hus2] at hst
      have HNX : Hid (stsOf c (upsR c 0 qs 0 (k + 1)) = us2) := Lib.hid (by rw [hnx]; exact hus2)
      obtain ⟨U, hU⟩ : ∃ U, (cutU c 0 (qk, qd)).1 = U := ⟨_, rfl⟩
      obtain ⟨D, hD⟩ : ∃ D, (cutU c 0 (qk, qd)).2 = D := ⟨_, rfl⟩
      rw [hU, hD] at CC hst hcu
      have HST := Lib.hid hst
      have hkk := keys_bd c 0
      have hub : 0 ≤ U ∧ U ≤ 18446744073709551615 := ⟨hcu.1, by have := hcu.2.1; omega⟩
      have hdb : -9223372036854775808 ≤ D ∧ D ≤ 9223372036854775807 := ⟨by have := hcu.2.2.1; omega, by have := hcu.2.2.2.1; omega⟩
      clear hq1 hnx hst hcu hus hus2 hU hD d1w d2w hwb
      go_upto_region 11 with fail
      go_region_held3 (fun w' => w'.cell? ⟨g1, 0, none⟩ = some (.int .i64 c.bt) ∧ w'.cell? ⟨g1, 1, none⟩ = some (.int .i64 c.rw) ∧ w'.cell? ⟨g1, 2, none⟩ = some (.int .i64 c.wd) ∧ w'.cell? ⟨g1, 3, none⟩ = some (.int .i64 c.md) ∧ w'.cell? ⟨g1, 4, none⟩ = some (.int .u64 c.sd) ∧ w'.cell? ⟨w.heap.size, 5, none⟩ = some (.slice (some aa) n0 k0) ∧ w'.cell? ⟨g, o, none⟩ = some (.int .u64 qk) ∧ w'.cell? ⟨g, o + 1, none⟩ = some (.int .i64 qd)) (first | (refine ⟨?_, ?_, ?_, ?_, ?_, ?_, ?_, ?_⟩ <;> (first | (with_reducible assumption) | (with_reducible refine cell_up e1 ?_) | (with_reducible refine cell_up e2 ?_) | (with_reducible refine cell_up e3 ?_) | (with_reducible refine cell_up e4 ?_) | (with_reducible refine cell_up e5 ?_) | (with_reducible refine cell_up c0 ?_) | (with_reducible refine cell_up d1 ?_) | (with_reducible refine cell_up d2 ?_)) <;> repeat' (first | (with_reducible exact Below.refl _ _) | (with_reducible assumption) | (with_reducible refine below_over ?_ _ _) | (with_reducible refine Lw.below_alloc ?_ _) | (with_reducible refine Below.drew ?_) | (with_reducible refine below_drewN ?_ _) | (with_reducible refine Below.setCell ?_ ?_ _) | go_size))) (first | (go_at_call 25; (with_reducible refine (CC.out _).mono ?_); rintro e w' ⟨rfl, hb⟩; obtain ⟨bs, dd, rfl⟩ := below_grow hb; clear hb))
      all_goals go_wp2_with (go_at_call 12; (with_reducible refine (cs_upd p F c us U D _ (stI (HVr.out.up (by repeat' (first | (with_reducible exact Below.refl _ _) | (with_reducible assumption) | (with_reducible refine below_over ?_ _ _) | (with_reducible refine Lw.below_alloc ?_ _) | (with_reducible refine Below.drew ?_) | (with_reducible refine below_drewN ?_ _) | (with_reducible refine Below.setCell ?_ ?_ _) | go_size))).i0) hub.1 hub.2 hdb.1 hdb.2).mono ?_); rintro e w8 ⟨he, F8, hnp, hnk, hnf⟩; rw [HST.out.1] at he; subst he; rw [HST.out.2] at hnp; have HV8 := Lib.hid ((HVr.out.up (by repeat' (first | (with_reducible exact Below.refl _ _) | (with_reducible assumption) | (with_reducible refine below_over ?_ _ _) | (with_reducible refine Lw.below_alloc ?_ _) | (with_reducible refine Below.drew ?_) | (with_reducible refine below_drewN ?_ _) | (with_reducible refine Below.setCell ?_ ?_ _) | go_size))).turn_0 (stT p F8 c us2) hnp hnk hnf); clear hnp hnk hnf)
      all_goals go_roundw
      all_goals first
        | exact ⟨k + 1, F8, by omega, .inl (by omega), by go_num, by rw [HNX.out]; exact HV8.out⟩
        | (simp [intOf]; omega)
    · have hend : upsR c 0 qs 0 k = upsR c 0 qs 0 60 := upsR_end hk1 (by rw [HL.out]; omega)
      rw [hend] at HVr
      have HVE := Lib.hid HVr.out
      obtain ⟨e1, e2, e3, e4, e5⟩ := box5 HVr.out.i1
      obtain ⟨y1, y2, y3, y4, y5⟩ := box5 HVr.out.i2
      have z1 := boxs_frozen HVr.out.i2 0
      have z2 := boxs_frozen HVr.out.i2 1
      have z3 := boxs_frozen HVr.out.i2 2
      have z4 := boxs_frozen HVr.out.i2 3
      have z5 := boxs_frozen HVr.out.i2 4
      clear hend hk2
      by_cases hkn : k < n0
      · have hkt : 60 ≤ k := by omega
        clear hlt
        go_wp2
        have h5 := box5 (store5 HVE.out.i2 (.int .i64 c.bt) (.int .i64 c.rw) (.int .i64 c.wd) (.int .i64 c.md) (.int .u64 c.sd))
        have hkp := store_have (w' := (((((wr.setCell ⟨w.heap.size + 1, 0, none⟩ (.int .i64 c.bt)).setCell ⟨w.heap.size + 1, 1, none⟩ (.int .i64 c.rw)).setCell ⟨w.heap.size + 1, 2, none⟩ (.int .i64 c.wd)).setCell ⟨w.heap.size + 1, 3, none⟩ (.int .i64 c.md)).setCell ⟨w.heap.size + 1, 4, none⟩ (.int .u64 c.sd)).drew) HVE.out (by repeat' (first | (with_reducible exact Kept.refl _ _) | (with_reducible refine Kept.drew ?_) | (refine Kept.set (F := fun k => k = w.heap.size + 1) ?_ (.inl rfl) _ _)))
        have hlo := HLO.out
        have hhi := HHI.out
        go_region
        all_goals (
          obtain ⟨wz, hwz⟩ : ∃ wz, wz = (((((wr.setCell ⟨w.heap.size + 1, 0, none⟩ (.int .i64 c.bt)).setCell ⟨w.heap.size + 1, 1, none⟩ (.int .i64 c.rw)).setCell ⟨w.heap.size + 1, 2, none⟩ (.int .i64 c.wd)).setCell ⟨w.heap.size + 1, 3, none⟩ (.int .i64 c.md)).setCell ⟨w.heap.size + 1, 4, none⟩ (.int .u64 c.sd)).drew := ⟨_, rfl⟩
          rw [← hwz] at h5 hkp ⊢
          have HKP := Lib.hid hkp
          obtain ⟨r1, r2, r3, r4, r5⟩ := h5
          clear hwz hkp e1 e2 e3 e4 e5 y1 y2 y3 y4 y5 z1 z2 z3 z4 z5
          go_wp2
          all_goals refine bodyPost_ret (v := .tuple #[.pointer (some p), .agg #[.int .i64 c.bt, .int .i64 c.rw, .int .i64 c.wd, .int .i64 c.md, .int .u64 c.sd], .int .u64 LO, .int .u64 HI]) (by simp [results, Tryz.results20, go_sem, r1, r2, r3, r4, r5] <;> omega) rfl ?_
          all_goals exact ⟨p, rfl, F, HKP.out⟩)
      · have hkn2 : n0 ≤ k := by omega
        clear hlt hkn
        go_wp2
        have h5 := box5 (store5 HVE.out.i2 (.int .i64 c.bt) (.int .i64 c.rw) (.int .i64 c.wd) (.int .i64 c.md) (.int .u64 c.sd))
        have hkp := store_have (w' := (((((wr.setCell ⟨w.heap.size + 1, 0, none⟩ (.int .i64 c.bt)).setCell ⟨w.heap.size + 1, 1, none⟩ (.int .i64 c.rw)).setCell ⟨w.heap.size + 1, 2, none⟩ (.int .i64 c.wd)).setCell ⟨w.heap.size + 1, 3, none⟩ (.int .i64 c.md)).setCell ⟨w.heap.size + 1, 4, none⟩ (.int .u64 c.sd)).drew) HVE.out (by repeat' (first | (with_reducible exact Kept.refl _ _) | (with_reducible refine Kept.drew ?_) | (refine Kept.set (F := fun k => k = w.heap.size + 1) ?_ (.inl rfl) _ _)))
        have hlo := HLO.out
        have hhi := HHI.out
        go_region
        all_goals (
          obtain ⟨wz, hwz⟩ : ∃ wz, wz = (((((wr.setCell ⟨w.heap.size + 1, 0, none⟩ (.int .i64 c.bt)).setCell ⟨w.heap.size + 1, 1, none⟩ (.int .i64 c.rw)).setCell ⟨w.heap.size + 1, 2, none⟩ (.int .i64 c.wd)).setCell ⟨w.heap.size + 1, 3, none⟩ (.int .i64 c.md)).setCell ⟨w.heap.size + 1, 4, none⟩ (.int .u64 c.sd)).drew := ⟨_, rfl⟩
          rw [← hwz] at h5 hkp ⊢
          have HKP := Lib.hid hkp
          obtain ⟨r1, r2, r3, r4, r5⟩ := h5
          clear hwz hkp e1 e2 e3 e4 e5 y1 y2 y3 y4 y5 z1 z2 z3 z4 z5
          go_wp2
          all_goals refine bodyPost_ret (v := .tuple #[.pointer (some p), .agg #[.int .i64 c.bt, .int .i64 c.rw, .int .i64 c.wd, .int .i64 c.md, .int .u64 c.sd], .int .u64 LO, .int .u64 HI]) (by simp [results, Tryz.results20, go_sem, r1, r2, r3, r4, r5] <;> omega) rfl ?_
          all_goals exact ⟨p, rfl, F, HKP.out⟩)
end Go.Proofs.YtbifihhfoanmgaaGreat.Spn
/- fed of layer 16's laws. Printed by wip/gen/spn2.py. -/
namespace Go.Proofs.YtbifihhfoanmgaaGreat.Spn
open Go Go.RowKit Lw Grd Lin Con Shp Sk Exa Lev Stk Pcs
set_option linter.unusedVariables false
set_option linter.unusedSimpArgs false
set_option maxRecDepth 100000 in
set_option maxHeartbeats 8000000 in
theorem fed_m (x : Cfg) (A : Option Addr) (n0 k0 : Nat) (qs : Ups) (md : Int) (hm0 : 1 ≤ md) (hm1 : md ≤ 3) (a b : Int) (c : Cfg) (w : World) (hx : x.Ok) (hq : UpdV w A n0 k0 qs) (a0 : 0 ≤ a) (a1 : a ≤ 18446744073709551615) (b0 : 0 ≤ b) (b1 : b ≤ 18446744073709551615) (hC : { anyC x 10 9 with md := md } = c) :
    Calls Tryz.prog 20 #[.agg #[.int .i64 x.bt, .int .i64 x.rw, .int .i64 x.wd, .int .i64 x.md, .int .u64 x.sd, .slice A n0 k0], .int .i64 10, .int .i64 md, .int .u64 a, .int .u64 b] w fun e w' => ∃ (p : Addr) (F : Nat → Prop), e = .returned (.tuple #[.pointer (some p), .agg #[.int .i64 c.bt, .int .i64 c.rw, .int .i64 c.wd, .int .i64 c.md, .int .u64 c.sd], .int .u64 (loK c a b), .int .u64 (hiK c a b)]) ∧ Have w w' [stT p F c (stsOf c (upsR c 0 qs 0 60))] := by
  have hr0 := any_right x 10 9 (by omega) (by omega) (by omega) (by omega)
  have hco0 := any_ok x hx 10 9 (by omega) (by omega) (by omega) (by omega)
  have hr : IsRight c := by rw [← hC]; exact ⟨hr0.1, hr0.2.1, hr0.2.2.1, hr0.2.2.2.1, hr0.2.2.2.2.1, hr0.2.2.2.2.2.1, hm0, hm1⟩
  have hco : c.Ok := by rw [← hC]; exact ⟨hco0.b0, hco0.b1, hco0.r0, hco0.r1, hco0.w0, hco0.w1, by show -9223372036854775808 ≤ md; omega, by show md ≤ 9223372036854775807; omega, hco0.s0, hco0.s1⟩
  obtain ⟨C, hCC⟩ : ∃ C, anyC x 10 9 = C := ⟨_, rfl⟩
  have h1 : C.bt = c.bt ∧ C.rw = c.rw ∧ C.wd = c.wd ∧ C.sd = c.sd ∧ c.md = md := by rw [← hC, ← hCC]; exact ⟨rfl, rfl, rfl, rfl, rfl⟩
  have CA := Lib.hid (fun w => rany_at x 10 9 C w hx (by omega) (by omega) (by omega) (by omega) hCC)
  rw [h1.1, h1.2.1, h1.2.2.1, h1.2.2.2.1] at CA
  have hmd := h1.2.2.2.2
  have hm9 : (0 : Int) < md := by omega
  have hbt := hr.1
  have hkeys : 1 ≤ keys c 0 := keys_pos.2 ⟨hr, by omega, by omega⟩
  have CNW := Lib.hid (fun w => cs_new c w hco hr)
  have CK := Lib.hid (fun w => rkeys_any c 0 w hco (by omega) (by omega))
  obtain ⟨Z, hZ⟩ : ∃ Z, stsOf c [] = Z := ⟨_, rfl⟩
  rw [hZ] at CNW
  have hst0 : stsOf c (upsR c 0 qs 0 0) = Z := by rw [upsR_zero]; exact hZ
  have HQ := Lib.hid hq
  have HL := Lib.hid hq.len
  have hnc := hq.nc
  have hcm := hq.cm
  unfold maxLen at hcm
  have HR := Lib.hid hr
  have HKY := Lib.hid hkeys
  have CC0 := Lib.hid (fun w k d h0 h1 h2 h3 => rcut15_any c k d w hco h0 h1 h2 h3 hkeys)
  have HBX : Hid (Have w ((w.alloc (.cells #[.int .i64 x.bt, .int .i64 x.rw, .int .i64 x.wd, .int .i64 x.md, .int .u64 x.sd, .slice A n0 k0] 27)).alloc (.cells #[.int .i64 0, .int .i64 0, .int .i64 0, .int .i64 0, .int .u64 0] 24)) [boxT (w.heap.size + 1) 24 #[.int .i64 0, .int .i64 0, .int .i64 0, .int .i64 0, .int .u64 0], boxT w.heap.size 27 #[.int .i64 x.bt, .int .i64 x.rw, .int .i64 x.wd, .int .i64 x.md, .int .u64 x.sd, .slice A n0 k0]]) := Lib.hid (two_boxs w _ _ _ _)
  have HKB := Lib.hid (keys_bd c 0)
  have HLO := Lib.hid (show min (a % keys c 0) (b % keys c 0) = loK c a b from rfl)
  have HHI := Lib.hid (show max (a % keys c 0) (b % keys c 0) = hiK c a b from rfl)
  obtain ⟨LO, hLO⟩ : ∃ v, loK c a b = v := ⟨_, rfl⟩
  obtain ⟨HI, hHI⟩ : ∃ v, hiK c a b = v := ⟨_, rfl⟩
  rw [hLO] at HLO ⊢
  rw [hHI] at HHI ⊢
  obtain ⟨K, hK⟩ : ∃ v, keys c 0 = v := ⟨_, rfl⟩
  rw [hK] at CK HKB HLO HHI
  have hK0 : ¬ K = 0 := by omega
  rw [hmd] at CNW CC0 CK ⊢
  clear hC hq hr hkeys hco hx hZ hr0 hco0 hLO hHI hK h1 hCC hmd
  go_enter Tryz.func20, Tryz.ntmps20
  go_wp2_with (first
    | (go_at_call 10; (with_reducible refine (CNW.out _).mono ?_); rintro e w4 ⟨p, F, rfl, hsk, hfr, hb⟩; have HV4 := Lib.hid (HV3.out.push (stT p F c Z) hb hsk hfr); clear hsk hfr hb)
    | (go_at_call 26; (with_reducible refine (CK.out _).mono ?_); rintro e w3 ⟨rfl, hb⟩; have HV3 := Lib.hid (HV2.out.up hb); clear hb; obtain ⟨y0, y1, y2, y3, y4⟩ := box5 HV3.out.i0)
    | (go_at_call 9; (with_reducible refine (CA.out _).mono ?_); rintro e w1 ⟨rfl, hb⟩; have HV1 := Lib.hid (HBX.out.up hb); obtain ⟨x0, x1, x2, x3, x4, x5⟩ := box6 HV1.out.i1; have hl0 := box_lt HV1.out.i1; have hl1 := box_lt HV1.out.i0; have HV2 := Lib.hid (HV1.out.push (boxT w1.heap.size 24 #[.int .i64 c.bt, .int .i64 c.rw, .int .i64 c.wd, .int .i64 md, .int .u64 c.sd]) (Lw.below_alloc (Below.refl _ _) _) (heap_alloc_new w1 _) (fun k hk => Nat.le_of_eq hk.symm)); clear hb))
  obtain ⟨g1, hg1⟩ : ∃ g1, w1.heap.size = g1 := ⟨_, rfl⟩
  rw [hg1] at HV4 ⊢
  clear hg1 hl0 hl1 x0 x1 x2 x3 x4 x5 y0 y1 y2 y3 y4
  go_loopw [18] (fun iv wr => ∃ (k : Nat) (F : Nat → Prop), k ≤ 60 ∧ (k ≤ n0 ∨ k = 0) ∧ iv = .int .i64 k ∧ Have w wr [stT p F c (stsOf c (upsR c 0 qs 0 k)), boxT g1 24 #[.int .i64 c.bt, .int .i64 c.rw, .int .i64 c.wd, .int .i64 md, .int .u64 c.sd], boxT (w.heap.size + 1) 24 #[.int .i64 0, .int .i64 0, .int .i64 0, .int .i64 0, .int .u64 0], boxT w.heap.size 27 #[.int .i64 x.bt, .int .i64 x.rw, .int .i64 x.wd, .int .i64 x.md, .int .u64 x.sd, .slice A n0 k0]]) (fun iv _ => 60 - (intOf iv).toNat)
  case atStart => exact ⟨0, F, Nat.zero_le _, .inr rfl, rfl, by rw [hst0]; exact HV4.out⟩
  case round =>
    obtain ⟨k, F, hk1, hk2, rfl, hv⟩ := hrel
    have HVr := Lib.hid hv
    have hwb := hv.below
    clear hv hst0
    obtain ⟨x0, x1, x2, x3, x4, c0⟩ := box6 HVr.out.i3
    by_cases hlt : k < n0 ∧ k < 60
    · obtain ⟨hj1, hj2⟩ := hlt
      obtain ⟨q, hq1⟩ : ∃ q, qs[k]? = some q := ⟨_, List.getElem?_eq_getElem (by rw [HL.out]; omega)⟩
      have hnx := upsR_next (c := c) (l := 0) hq1 (Nat.zero_le k)
      have hst := stsOf_step HR.out (upsR_in HKY.out qs 0 k) (by have := upsR_len c 0 qs 0 k; omega) (upsIn_cut HKY.out [q])
      have hcu := cutU_ok HKY.out q
      obtain ⟨aa, g, o, rfl, hadd, d1w, d2w, kb, db⟩ := HQ.out.at hq1
      obtain ⟨qk, qd⟩ := q
      simp only at d1w d2w kb db
      have d1 := cell_up d1w hwb
      have d2 := cell_up d2w hwb
      obtain ⟨e1, e2, e3, e4, e5⟩ := box5 HVr.out.i1
      have CC := Lib.hid (fun w => CC0.out w qk qd kb.1 kb.2 db.1 db.2)
      obtain ⟨us, hus⟩ : ∃ us, stsOf c (upsR c 0 qs 0 k) = us := ⟨_, rfl⟩
      obtain ⟨us2, hus2⟩ : ∃ us2, stsOf c (upsR c 0 qs 0 (k + 1)) = us2 := ⟨_, rfl⟩
      rw [hus] at HVr hst
      rw [hnx] at hus2
      rw [hus2] at hst
      have HNX : Hid (stsOf c (upsR c 0 qs 0 (k + 1)) = us2) := Lib.hid (by rw [hnx]; exact hus2)
      obtain ⟨U, hU⟩ : ∃ U, (cutU c 0 (qk, qd)).1 = U := ⟨_, rfl⟩
      obtain ⟨D, hD⟩ : ∃ D, (cutU c 0 (qk, qd)).2 = D := ⟨_, rfl⟩
      rw [hU, hD] at CC hst hcu
      have HST := Lib.hid hst
      have hkk := keys_bd c 0
      have hub : 0 ≤ U ∧ U ≤ 18446744073709551615 := ⟨hcu.1, by have := hcu.2.1; omega⟩
      have hdb : -9223372036854775808 ≤ D ∧ D ≤ 9223372036854775807 := ⟨by have := hcu.2.2.1; omega, by have := hcu.2.2.2.1; omega⟩
      clear hq1 hnx hst hcu hus hus2 hU hD d1w d2w hwb
      go_upto_region 11 with fail
      go_region_held3 (fun w' => w'.cell? ⟨g1, 0, none⟩ = some (.int .i64 c.bt) ∧ w'.cell? ⟨g1, 1, none⟩ = some (.int .i64 c.rw) ∧ w'.cell? ⟨g1, 2, none⟩ = some (.int .i64 c.wd) ∧ w'.cell? ⟨g1, 3, none⟩ = some (.int .i64 md) ∧ w'.cell? ⟨g1, 4, none⟩ = some (.int .u64 c.sd) ∧ w'.cell? ⟨w.heap.size, 5, none⟩ = some (.slice (some aa) n0 k0) ∧ w'.cell? ⟨g, o, none⟩ = some (.int .u64 qk) ∧ w'.cell? ⟨g, o + 1, none⟩ = some (.int .i64 qd)) (first | (refine ⟨?_, ?_, ?_, ?_, ?_, ?_, ?_, ?_⟩ <;> (first | (with_reducible assumption) | (with_reducible refine cell_up e1 ?_) | (with_reducible refine cell_up e2 ?_) | (with_reducible refine cell_up e3 ?_) | (with_reducible refine cell_up e4 ?_) | (with_reducible refine cell_up e5 ?_) | (with_reducible refine cell_up c0 ?_) | (with_reducible refine cell_up d1 ?_) | (with_reducible refine cell_up d2 ?_)) <;> repeat' (first | (with_reducible exact Below.refl _ _) | (with_reducible assumption) | (with_reducible refine below_over ?_ _ _) | (with_reducible refine Lw.below_alloc ?_ _) | (with_reducible refine Below.drew ?_) | (with_reducible refine below_drewN ?_ _) | (with_reducible refine Below.setCell ?_ ?_ _) | go_size))) (first | (go_at_call 25; (with_reducible refine (CC.out _).mono ?_); rintro e w' ⟨rfl, hb⟩; obtain ⟨bs, dd, rfl⟩ := below_grow hb; clear hb))
      all_goals go_wp2_with (go_at_call 12; (with_reducible refine (cs_upd p F c us U D _ (stI (HVr.out.up (by repeat' (first | (with_reducible exact Below.refl _ _) | (with_reducible assumption) | (with_reducible refine below_over ?_ _ _) | (with_reducible refine Lw.below_alloc ?_ _) | (with_reducible refine Below.drew ?_) | (with_reducible refine below_drewN ?_ _) | (with_reducible refine Below.setCell ?_ ?_ _) | go_size))).i0) hub.1 hub.2 hdb.1 hdb.2).mono ?_); rintro e w8 ⟨he, F8, hnp, hnk, hnf⟩; rw [HST.out.1] at he; subst he; rw [HST.out.2] at hnp; have HV8 := Lib.hid ((HVr.out.up (by repeat' (first | (with_reducible exact Below.refl _ _) | (with_reducible assumption) | (with_reducible refine below_over ?_ _ _) | (with_reducible refine Lw.below_alloc ?_ _) | (with_reducible refine Below.drew ?_) | (with_reducible refine below_drewN ?_ _) | (with_reducible refine Below.setCell ?_ ?_ _) | go_size))).turn_0 (stT p F8 c us2) hnp hnk hnf); clear hnp hnk hnf)
      all_goals go_roundw
      all_goals first
        | exact ⟨k + 1, F8, by omega, .inl (by omega), by go_num, by rw [HNX.out]; exact HV8.out⟩
        | (simp [intOf]; omega)
    · have hend : upsR c 0 qs 0 k = upsR c 0 qs 0 60 := upsR_end hk1 (by rw [HL.out]; omega)
      rw [hend] at HVr
      have HVE := Lib.hid HVr.out
      obtain ⟨e1, e2, e3, e4, e5⟩ := box5 HVr.out.i1
      obtain ⟨y1, y2, y3, y4, y5⟩ := box5 HVr.out.i2
      have z1 := boxs_frozen HVr.out.i2 0
      have z2 := boxs_frozen HVr.out.i2 1
      have z3 := boxs_frozen HVr.out.i2 2
      have z4 := boxs_frozen HVr.out.i2 3
      have z5 := boxs_frozen HVr.out.i2 4
      clear hend hk2
      by_cases hkn : k < n0
      · have hkt : 60 ≤ k := by omega
        clear hlt
        go_wp2
        have h5 := box5 (store5 HVE.out.i2 (.int .i64 c.bt) (.int .i64 c.rw) (.int .i64 c.wd) (.int .i64 md) (.int .u64 c.sd))
        have hkp := store_have (w' := (((((wr.setCell ⟨w.heap.size + 1, 0, none⟩ (.int .i64 c.bt)).setCell ⟨w.heap.size + 1, 1, none⟩ (.int .i64 c.rw)).setCell ⟨w.heap.size + 1, 2, none⟩ (.int .i64 c.wd)).setCell ⟨w.heap.size + 1, 3, none⟩ (.int .i64 md)).setCell ⟨w.heap.size + 1, 4, none⟩ (.int .u64 c.sd)).drew) HVE.out (by repeat' (first | (with_reducible exact Kept.refl _ _) | (with_reducible refine Kept.drew ?_) | (refine Kept.set (F := fun k => k = w.heap.size + 1) ?_ (.inl rfl) _ _)))
        have hlo := HLO.out
        have hhi := HHI.out
        go_region
        all_goals (
          obtain ⟨wz, hwz⟩ : ∃ wz, wz = (((((wr.setCell ⟨w.heap.size + 1, 0, none⟩ (.int .i64 c.bt)).setCell ⟨w.heap.size + 1, 1, none⟩ (.int .i64 c.rw)).setCell ⟨w.heap.size + 1, 2, none⟩ (.int .i64 c.wd)).setCell ⟨w.heap.size + 1, 3, none⟩ (.int .i64 md)).setCell ⟨w.heap.size + 1, 4, none⟩ (.int .u64 c.sd)).drew := ⟨_, rfl⟩
          rw [← hwz] at h5 hkp ⊢
          have HKP := Lib.hid hkp
          obtain ⟨r1, r2, r3, r4, r5⟩ := h5
          clear hwz hkp e1 e2 e3 e4 e5 y1 y2 y3 y4 y5 z1 z2 z3 z4 z5
          go_wp2
          all_goals refine bodyPost_ret (v := .tuple #[.pointer (some p), .agg #[.int .i64 c.bt, .int .i64 c.rw, .int .i64 c.wd, .int .i64 md, .int .u64 c.sd], .int .u64 LO, .int .u64 HI]) (by simp [results, Tryz.results20, go_sem, r1, r2, r3, r4, r5] <;> omega) rfl ?_
          all_goals exact ⟨p, rfl, F, HKP.out⟩)
      · have hkn2 : n0 ≤ k := by omega
        clear hlt hkn
        go_wp2
        have h5 := box5 (store5 HVE.out.i2 (.int .i64 c.bt) (.int .i64 c.rw) (.int .i64 c.wd) (.int .i64 md) (.int .u64 c.sd))
        have hkp := store_have (w' := (((((wr.setCell ⟨w.heap.size + 1, 0, none⟩ (.int .i64 c.bt)).setCell ⟨w.heap.size + 1, 1, none⟩ (.int .i64 c.rw)).setCell ⟨w.heap.size + 1, 2, none⟩ (.int .i64 c.wd)).setCell ⟨w.heap.size + 1, 3, none⟩ (.int .i64 md)).setCell ⟨w.heap.size + 1, 4, none⟩ (.int .u64 c.sd)).drew) HVE.out (by repeat' (first | (with_reducible exact Kept.refl _ _) | (with_reducible refine Kept.drew ?_) | (refine Kept.set (F := fun k => k = w.heap.size + 1) ?_ (.inl rfl) _ _)))
        have hlo := HLO.out
        have hhi := HHI.out
        go_region
        all_goals (
          obtain ⟨wz, hwz⟩ : ∃ wz, wz = (((((wr.setCell ⟨w.heap.size + 1, 0, none⟩ (.int .i64 c.bt)).setCell ⟨w.heap.size + 1, 1, none⟩ (.int .i64 c.rw)).setCell ⟨w.heap.size + 1, 2, none⟩ (.int .i64 c.wd)).setCell ⟨w.heap.size + 1, 3, none⟩ (.int .i64 md)).setCell ⟨w.heap.size + 1, 4, none⟩ (.int .u64 c.sd)).drew := ⟨_, rfl⟩
          rw [← hwz] at h5 hkp ⊢
          have HKP := Lib.hid hkp
          obtain ⟨r1, r2, r3, r4, r5⟩ := h5
          clear hwz hkp e1 e2 e3 e4 e5 y1 y2 y3 y4 y5 z1 z2 z3 z4 z5
          go_wp2
          all_goals refine bodyPost_ret (v := .tuple #[.pointer (some p), .agg #[.int .i64 c.bt, .int .i64 c.rw, .int .i64 c.wd, .int .i64 md, .int .u64 c.sd], .int .u64 LO, .int .u64 HI]) (by simp [results, Tryz.results20, go_sem, r1, r2, r3, r4, r5] <;> omega) rfl ?_
          all_goals exact ⟨p, rfl, F, HKP.out⟩)
end Go.Proofs.YtbifihhfoanmgaaGreat.Spn
/- shown of layer 15's laws. Printed by wip/gen/stk2.py. -/
namespace Go.Proofs.YtbifihhfoanmgaaGreat.Stk
open Go Go.RowKit Lw Grd Lin Con Shp Sk Exa Lev
set_option linter.unusedVariables false
set_option linter.unusedSimpArgs false
def lS : Cfg := ⟨2, 2, 2, 1, 0⟩
theorem lS_ok : lS.Ok := by constructor <;> decide
theorem lS_r : IsRight lS := by decide
theorem lS_k : keys lS 0 = 4 := by decide
theorem lS_in {us : Ups} (h : ∀ u ∈ us, (0 ≤ u.1 ∧ u.1 < 4) ∧ (-1099511627776 ≤ u.2 ∧ u.2 ≤ 1099511627776)) : UpsIn lS 0 us :=
  ⟨fun u hu => ⟨(h u hu).1.1, by rw [lS_k]; exact (h u hu).1.2, (h u hu).2⟩, fun hm => by simp [lS] at hm⟩
theorem sS_1 : sucode lS (stsOf lS []) 3 5 = 0 ∧ sures lS (stsOf lS []) 3 5 = stsOf lS [(3, 5)] :=
  stsOf_step lS_r (lS_in (fun u hu => by simp at hu)) (by decide) (u := (3, 5)) (lS_in (fun u hu => by rw [List.mem_singleton.1 hu]; decide))
theorem sS_2 : sucode lS (stsOf lS [(3, 5)]) 0 (-2) = 0 ∧ sures lS (stsOf lS [(3, 5)]) 0 (-2) = stsOf lS [(3, 5), (0, -2)] :=
  stsOf_step lS_r (lS_in (fun u hu => by rw [List.mem_singleton.1 hu]; decide)) (by decide) (u := (0, -2)) (lS_in (fun u hu => by rw [List.mem_singleton.1 hu]; decide))
theorem sS_3 (sts : List LS) : sucode lS sts 4 1 = 2 ∧ sures lS sts 4 1 = sts := by
  have e : sucode lS sts 4 1 = 2 := if_pos (by rw [lS_k]; decide)
  exact ⟨e, if_neg (by rw [e]; decide)⟩
theorem sz_flat2 {m n : Nat} {L : List (List Int)} (h : Sz m n L) : L.flatten.length = m * n := by
  have h2 : ∀ {L : List (List Int)}, (∀ r ∈ L, r.length = n) → L.flatten.length = L.length * n := by
    intro L
    induction L with
    | nil => intro _; simp
    | cons r L ih =>
      intro hr
      rw [List.flatten_cons, List.length_append, ih (fun q hq => hr q (by simp [hq])), hr r (by simp), List.length_cons, Nat.succ_mul]
      omega
  rw [h2 h.2, h.1]
theorem sS_c0 : (lvFl (stsOf lS [(3, 5), (0, -2)]) 0).length = 4 := by
  have h1 : UpsIn lS 0 [(3, 5), (0, -2)] := lS_in (fun u hu => by
    rcases List.mem_cons.1 hu with rfl | hu
    · decide
    · rw [List.mem_singleton.1 hu]; decide)
  have h2 := upN_in lS_r h1 (n := 0) (by decide)
  have h3 := sz_flat2 (cells_sz h2)
  have e : lvFl (stsOf lS [(3, 5), (0, -2)]) 0 = (cells lS 0 (upN [(3, 5), (0, -2)] 0)).flatten := rfl
  rw [e]
  exact h3
theorem sS_c1 : lvFl (stsOf lS [(3, 5), (0, -2)]) 1 = [-2, 5] := by decide
theorem sS_p1 : spV lS (stsOf lS [(3, 5), (0, -2)]) 1 1 = 5 ∧ spC lS (stsOf lS [(3, 5), (0, -2)]) 1 1 = 0 := by decide
theorem sS_p3 : spC lS (stsOf lS [(3, 5), (0, -2)]) 3 0 = 2 := by decide
theorem sS_t : spV lS (stsOf lS [(3, 5), (0, -2)]) lS.bt 0 = 3 := by decide
theorem sS_a : (stsOf lS [(3, 5), (0, -2)])[1]? = some (.A [-2, 5]) := by
  have h := stsOf_get (c := lS) (us := [(3, 5), (0, -2)]) (n := 1) (by decide)
  have e : stOf lS [(3, 5), (0, -2)] 1 = .A (sums (keys lS 1).toNat (upN [(3, 5), (0, -2)] 1)) := if_pos (by decide)
  have e2 : sums (keys lS 1).toNat (upN [(3, 5), (0, -2)] 1) = [-2, 5] := by decide
  rw [h, e, e2]
theorem sn_1 (w : World) : Calls Tryz.prog 10 #[.agg #[.int .i64 2, .int .i64 2, .int .i64 2, .int .i64 1, .int .u64 0]] w fun e w' => ∃ (p : Addr) (F : Nat → Prop), e = .returned (.tuple #[.pointer (some p), .int .i64 0]) ∧ ST w' p F lS (stsOf lS []) ∧ (∀ k, F k → w.heap.size ≤ k) ∧ Below w.heap.size w w' := cs_new lS w lS_ok lS_r
theorem sn_0 (w : World) : Calls Tryz.prog 10 #[.agg #[.int .i64 0, .int .i64 0, .int .i64 0, .int .i64 0, .int .u64 0]] w fun e w' => e = .returned (.tuple #[.pointer none, .int .i64 1]) ∧ Below w.heap.size w w' := cs_none ⟨0, 0, 0, 0, 0⟩ w (by constructor <;> decide) (by decide)
theorem su_any (p : Addr) (F : Nat → Prop) (sts sts2 : List LS) (k d x : Int) (w : World) (h : ST w p F lS sts) (k0 : 0 ≤ k) (k1 : k ≤ 18446744073709551615) (d0 : -9223372036854775808 ≤ d) (d1 : d ≤ 9223372036854775807) (hu : sucode lS sts k d = x ∧ sures lS sts k d = sts2) :
    Calls Tryz.prog 12 #[.pointer (some p), .int .u64 k, .int .i64 d] w fun e w' => e = .returned (.int .i64 x) ∧ ∃ F', ST w' p F' lS sts2 ∧ Kept F w w' ∧ (∀ q, F' q → F q ∨ w.heap.size ≤ q) := by
  have h1 := cs_upd p F lS sts k d w h k0 k1 d0 d1
  rw [hu.1, hu.2] at h1
  exact h1
theorem sp_1 (p : Addr) (F : Nat → Prop) (w : World) (h : ST w p F lS (stsOf lS [(3, 5), (0, -2)])) : Calls Tryz.prog 28 #[.pointer (some p), .agg #[.int .i64 1, .int .u64 1]] w fun e w' => e = .returned (.tuple #[.int .i64 5, .int .i64 0]) ∧ Below w.heap.size w w' := by
  have h1 := cs_point p F lS _ 1 1 w h (by decide) (by decide) (by decide) (by decide)
  rw [sS_p1.1, sS_p1.2] at h1
  exact h1
theorem sp_3 (p : Addr) (F : Nat → Prop) (w : World) (h : ST w p F lS (stsOf lS [(3, 5), (0, -2)])) : Calls Tryz.prog 28 #[.pointer (some p), .agg #[.int .i64 3, .int .u64 0]] w fun e w' => ∃ z, e = .returned (.tuple #[.int .i64 z, .int .i64 2]) ∧ Below w.heap.size w w' := by
  have h1 := cs_point p F lS _ 3 0 w h (by decide) (by decide) (by decide) (by decide)
  rw [sS_p3] at h1
  exact h1.mono (fun e w' h => ⟨_, h⟩)
theorem st_3 (p : Addr) (F : Nat → Prop) (w : World) (h : ST w p F lS (stsOf lS [(3, 5), (0, -2)])) : Calls Tryz.prog 27 #[.pointer (some p)] w fun e w' => e = .returned (.int .i64 3) ∧ Below w.heap.size w w' := by
  have h1 := cs_total p F lS _ w h
  rw [sS_t] at h1
  exact h1
theorem lit_m2 (X : World) : Rd .i64 (X.alloc (.cells #[.int .i64 (-2), .int .i64 5] 2)) (some ⟨X.heap.size, 0, none⟩) [-2, 5] := by
  have hb := heap_alloc_new X (.cells #[.int .i64 (-2), .int .i64 5] 2)
  exact lit2 (box_cell hb rfl) (box_cell hb rfl)
end Go.Proofs.YtbifihhfoanmgaaGreat.Stk
/- A Play of layer 16, opened. Printed by wip/gen/spn2.py. -/
namespace Go.Proofs.YtbifihhfoanmgaaGreat.Spn
open Go Go.RowKit Lw Grd Lin Con Shp Sk Exa Lev Stk
set_option linter.unusedVariables false
set_option linter.unusedSimpArgs false
theorem open_playX_c : Tryz.prog.cellsOf 27 = 6 := by kernel_rfl
set_option maxRecDepth 100000 in
theorem open_playX {H : Type} {enc : TypeId × Value → H} {w : World} {v : Value} {d : DataW H} {p : List MemPlace} {base : Nat} (hv : Value.okWide Tryz.prog w .any base 27 v)
    (h : DataW.Trod enc Tryz.prog w 0 (fun _ => true) true 27 v d p) :
    ∃ (c : Cfg) (A : Option Addr) (n k : Nat) (qs : Ups), v = .agg #[.int .i64 c.bt, .int .i64 c.rw, .int .i64 c.wd, .int .i64 c.md, .int .u64 c.sd, .slice A n k] ∧ c.Ok ∧ UpdV w A n k qs := by
  have hcs : ∃ cs : Array Value, v = .agg cs ∧ cs.size = Tryz.prog.cellsOf 27 := by
    simp only [Value.okWide, Tryz.underlying27] at hv
    obtain ⟨cs, h1, h2, _⟩ := hv
    exact ⟨cs, h1, h2⟩
  obtain ⟨⟨l⟩, rfl, hsz⟩ := hcs
  rw [open_playX_c] at hsz
  obtain ⟨fuel, hf0⟩ := h
  obtain ⟨xs, k, _, _, _, hxl, hf⟩ := DataW.trod_struct Tryz.underlying27 hf0
  match xs, hxl, l, hsz with
  | [y0, y1], _, [v0, v1, v2, v3, v4, v5], _ =>
    have g0 := hf 0 _ rfl
    have g1 := hf 1 _ rfl
    simp [Value.cells, show Tryz.prog.cellsOf 24 = 5 from by kernel_rfl, show Tryz.prog.cellsOf 25 = 1 from by kernel_rfl] at g0 g1
    obtain ⟨zs, k2, _, _, _, hzl, hz⟩ := DataW.trod_struct Tryz.underlying24 g0
    match zs, hzl with
    | [z0, z1, z2, z3, z4], _ =>
      have c0 := hz 0 _ rfl
      have c1 := hz 1 _ rfl
      have c2 := hz 2 _ rfl
      have c3 := hz 3 _ rfl
      have c4 := hz 4 _ rfl
      simp [show Tryz.prog.cellsOf 3 = 1 from by kernel_rfl, show Tryz.prog.cellsOf 22 = 1 from by kernel_rfl] at c0 c1 c2 c3 c4
      obtain ⟨x0, f0, _, w0⟩ := DataW.trod_int (show Tryz.prog.underlying 3 = some (.int .i64) by kernel_rfl) c0
      simp at f0
      subst f0
      obtain ⟨x1, f1, _, w1⟩ := DataW.trod_int (show Tryz.prog.underlying 3 = some (.int .i64) by kernel_rfl) c1
      simp at f1
      subst f1
      obtain ⟨x2, f2, _, w2⟩ := DataW.trod_int (show Tryz.prog.underlying 3 = some (.int .i64) by kernel_rfl) c2
      simp at f2
      subst f2
      obtain ⟨x3, f3, _, w3⟩ := DataW.trod_int (show Tryz.prog.underlying 3 = some (.int .i64) by kernel_rfl) c3
      simp at f3
      subst f3
      obtain ⟨x4, f4, _, w4⟩ := DataW.trod_int (show Tryz.prog.underlying 22 = some (.int .u64) by kernel_rfl) c4
      simp at f4
      subst f4
      obtain ⟨A, n, cp, qs, f6, h0, h1, h2, h3, h4⟩ := open_upds g1
      simp at f6
      subst f6
      have b0 := Lw.wf_i64 w0
      have b1 := Lw.wf_i64 w1
      have b2 := Lw.wf_i64 w2
      have b3 := Lw.wf_i64 w3
      have b4 := Lw.wf_u64 w4
      exact ⟨⟨x0, x1, x2, x3, x4⟩, A, n, cp, qs, rfl, ⟨b0.1, b0.2, b1.1, b1.2, b2.1, b2.2, b3.1, b3.2, b4.1, b4.2⟩, ⟨h0, h1, h2, h3, h4⟩⟩
end Go.Proofs.YtbifihhfoanmgaaGreat.Spn
/- shown of layer 16's laws. Printed by wip/gen/spn3.py. -/
namespace Go.Proofs.YtbifihhfoanmgaaGreat.Spn
open Go Go.RowKit Lw Grd Lin Con Shp Sk Exa Lev Stk Pcs
set_option linter.unusedVariables false
set_option linter.unusedSimpArgs false
def lT : Cfg := ⟨3, 1, 8, 1, 0⟩
theorem lT_ok : lT.Ok := by constructor <;> decide
theorem lT_r : IsRight lT := by decide
theorem lT_k : keys lT 0 = 8 := by decide
theorem lT_in {us : Ups} (h : ∀ u ∈ us, (0 ≤ u.1 ∧ u.1 < 8) ∧ (-1099511627776 ≤ u.2 ∧ u.2 ≤ 1099511627776)) : UpsIn lT 0 us :=
  ⟨fun u hu => ⟨(h u hu).1.1, by rw [lT_k]; exact (h u hu).1.2, (h u hu).2⟩, fun hm => by simp [lT] at hm⟩
theorem sT_1 : sucode lT (stsOf lT []) 1 5 = 0 ∧ sures lT (stsOf lT []) 1 5 = stsOf lT [(1, 5)] :=
  stsOf_step lT_r (lT_in (fun u hu => by simp at hu)) (by decide) (u := (1, 5)) (lT_in (fun u hu => by rw [List.mem_singleton.1 hu]; decide))
theorem sT_2 : sucode lT (stsOf lT [(1, 5)]) 6 7 = 0 ∧ sures lT (stsOf lT [(1, 5)]) 6 7 = stsOf lT [(1, 5), (6, 7)] :=
  stsOf_step lT_r (lT_in (fun u hu => by rw [List.mem_singleton.1 hu]; decide)) (by decide) (u := (6, 7)) (lT_in (fun u hu => by rw [List.mem_singleton.1 hu]; decide))
theorem cv_16 : Cov 3 7 1 [(0, 1), (1, 1), (1, 2), (0, 6)] :=
  .cons (L := 0) (by unfold GL; decide) (.cons (lo := 2) (L := 1) (by unfold GL; decide) (.cons (lo := 4) (L := 1) (by unfold GL; decide) (.cons (lo := 6) (L := 0) (by unfold GL; decide) .nil)))
theorem cv_05 : Cov 3 6 0 [(2, 0), (1, 2)] :=
  .cons (L := 2) (by unfold GL; decide) (.cons (lo := 4) (L := 1) (by unfold GL; decide) .nil)
theorem pt_16 : parts lT (fun L i => spV lT (stsOf lT [(1, 5), (6, 7)]) (L : Int) i) 1 6 = [5, 0, 0, 7] := by
  unfold parts
  rw [covL_eq (n := lT.bt.toNat) (lo := (1 : Int).toNat) (hi := (6 : Int).toNat) cv_16]
  decide
theorem pt_05 : parts lT (fun L i => spV lT (stsOf lT [(1, 5), (6, 7)]) (L : Int) i) 0 5 = [5, 0] := by
  unfold parts
  rw [covL_eq (n := lT.bt.toNat) (lo := (0 : Int).toNat) (hi := (5 : Int).toNat) cv_05]
  decide
theorem pc_any (lo hi : Int) (h1 : lo ≤ hi) (h2 : hi < 8) : ptC2 lT lo hi = 0 := by
  unfold ptC2
  rw [lT_k, if_neg (by omega), if_neg (by omega)]
theorem ptl_16 : ptL lT (fun L i => spV lT (stsOf lT [(1, 5), (6, 7)]) (L : Int) i) 1 6 = [5, 0, 0, 7] := by
  unfold ptL
  rw [if_pos (pc_any 1 6 (by decide) (by decide)), pt_16]
theorem rg_16 : rgV lT (fun L i => spV lT (stsOf lT [(1, 5), (6, 7)]) (L : Int) i) 1 6 = 12 ∧ rgC lT (fun L i => spV lT (stsOf lT [(1, 5), (6, 7)]) (L : Int) i) 1 6 = 0 := by
  have h : rgC lT (fun L i => spV lT (stsOf lT [(1, 5), (6, 7)]) (L : Int) i) 1 6 = 0 := by
    unfold rgC
    rw [if_pos (pc_any 1 6 (by decide) (by decide)), pt_16]
    decide
  exact ⟨by unfold rgV; rw [if_pos h, pt_16]; decide, h⟩
theorem rg_05 : rgV lT (fun L i => spV lT (stsOf lT [(1, 5), (6, 7)]) (L : Int) i) 0 5 = 5 ∧ rgC lT (fun L i => spV lT (stsOf lT [(1, 5), (6, 7)]) (L : Int) i) 0 5 = 0 := by
  have h : rgC lT (fun L i => spV lT (stsOf lT [(1, 5), (6, 7)]) (L : Int) i) 0 5 = 0 := by
    unfold rgC
    rw [if_pos (pc_any 0 5 (by decide) (by decide)), pt_05]
    decide
  exact ⟨by unfold rgV; rw [if_pos h, pt_05]; decide, h⟩
theorem rg_no (lo hi e : Int) (he : ptC2 lT lo hi = e) (h0 : ¬ e = 0) : rgV lT (fun L i => spV lT (stsOf lT [(1, 5), (6, 7)]) (L : Int) i) lo hi = 0 ∧ rgC lT (fun L i => spV lT (stsOf lT [(1, 5), (6, 7)]) (L : Int) i) lo hi = e := by
  have h : rgC lT (fun L i => spV lT (stsOf lT [(1, 5), (6, 7)]) (L : Int) i) lo hi = e := by
    unfold rgC
    rw [if_neg (by rw [he]; exact h0), he]
  exact ⟨by unfold rgV; rw [if_neg (by rw [h]; exact h0)], h⟩
theorem rg_21 : rgV lT (fun L i => spV lT (stsOf lT [(1, 5), (6, 7)]) (L : Int) i) 2 1 = 0 ∧ rgC lT (fun L i => spV lT (stsOf lT [(1, 5), (6, 7)]) (L : Int) i) 2 1 = 1 := rg_no 2 1 1 (by decide) (by decide)
theorem rg_28 : rgV lT (fun L i => spV lT (stsOf lT [(1, 5), (6, 7)]) (L : Int) i) 2 8 = 0 ∧ rgC lT (fun L i => spV lT (stsOf lT [(1, 5), (6, 7)]) (L : Int) i) 2 8 = 2 := rg_no 2 8 2 (by decide) (by decide)
theorem tn_1 (w : World) : Calls Tryz.prog 10 #[.agg #[.int .i64 3, .int .i64 1, .int .i64 8, .int .i64 1, .int .u64 0]] w fun e w' => ∃ (p : Addr) (F : Nat → Prop), e = .returned (.tuple #[.pointer (some p), .int .i64 0]) ∧ ST w' p F lT (stsOf lT []) ∧ (∀ k, F k → w.heap.size ≤ k) ∧ Below w.heap.size w w' := cs_new lT w lT_ok lT_r
theorem tu_any (p : Addr) (F : Nat → Prop) (sts sts2 : List LS) (k d x : Int) (w : World) (h : ST w p F lT sts) (k0 : 0 ≤ k) (k1 : k ≤ 18446744073709551615) (d0 : -9223372036854775808 ≤ d) (d1 : d ≤ 9223372036854775807) (hu : sucode lT sts k d = x ∧ sures lT sts k d = sts2) :
    Calls Tryz.prog 12 #[.pointer (some p), .int .u64 k, .int .i64 d] w fun e w' => e = .returned (.int .i64 x) ∧ ∃ F', ST w' p F' lT sts2 ∧ Kept F w w' ∧ (∀ q, F' q → F q ∨ w.heap.size ≤ q) := by
  have h1 := cs_upd p F lT sts k d w h k0 k1 d0 d1
  rw [hu.1, hu.2] at h1
  exact h1
theorem tr_any (p : Addr) (F : Nat → Prop) (lo hi v x : Int) (w : World) (h : ST w p F lT (stsOf lT [(1, 5), (6, 7)])) (l0 : 0 ≤ lo) (l1 : lo ≤ 18446744073709551615) (i0 : 0 ≤ hi) (i1 : hi ≤ 18446744073709551615) (hv : rgV lT (fun L i => spV lT (stsOf lT [(1, 5), (6, 7)]) (L : Int) i) lo hi = v ∧ rgC lT (fun L i => spV lT (stsOf lT [(1, 5), (6, 7)]) (L : Int) i) lo hi = x) :
    Calls Tryz.prog 16 #[.pointer (some p), .int .u64 lo, .int .u64 hi] w fun e w' => e = .returned (.tuple #[.int .i64 v, .int .i64 x]) ∧ Below w.heap.size w w' := by
  have h1 := sp_range p F lT (stsOf lT [(1, 5), (6, 7)]) lo hi w h l0 l1 i0 i1
  rw [hv.1, hv.2] at h1
  exact h1
theorem tk_5 (p : Addr) (F : Nat → Prop) (w : World) (h : ST w p F lT (stsOf lT [(1, 5), (6, 7)])) :
    Calls Tryz.prog 18 #[.pointer (some p), .int .u64 5] w fun e w' => e = .returned (.tuple #[.int .i64 5, .int .i64 0]) ∧ Below w.heap.size w w' := by
  have h1 := sp_rank p F lT (stsOf lT [(1, 5), (6, 7)]) 5 w h (by decide) (by decide)
  rw [rg_05.1, rg_05.2] at h1
  exact h1
theorem tp_16 (p : Addr) (F : Nat → Prop) (w : World) (h : ST w p F lT (stsOf lT [(1, 5), (6, 7)])) :
    Calls Tryz.prog 14 #[.pointer (some p), .int .u64 1, .int .u64 6] w fun e w' => ∃ (A : Option Addr) (cap : Nat), e = .returned (.tuple #[.slice A 4 cap, .int .i64 0]) ∧ Rd .i64 w' A [5, 0, 0, 7] ∧ Below w.heap.size w w' := by
  refine (sp_parts p F lT (stsOf lT [(1, 5), (6, 7)]) 1 6 w h (by decide) (by decide) (by decide) (by decide)).mono ?_
  rintro e w' ⟨A, n, cap, rfl, hr, hn, -, -, hb⟩
  rw [ptl_16] at hr hn
  subst hn
  rw [pc_any 1 6 (by decide) (by decide)]
  exact ⟨A, cap, rfl, hr, hb⟩
theorem lit4w {w : World} {g : Nat} {x y z u : Int} (h0 : w.cell? ⟨g, 0, none⟩ = some (.int .i64 x)) (h1 : w.cell? ⟨g, 1, none⟩ = some (.int .i64 y)) (h2 : w.cell? ⟨g, 2, none⟩ = some (.int .i64 z)) (h3 : w.cell? ⟨g, 3, none⟩ = some (.int .i64 u)) : Rd .i64 w (some ⟨g, 0, none⟩) [x, y, z, u] := by
  intro k v hk
  refine ⟨_, rfl, ?_⟩
  match k, hk with
  | 0, hk => simp at hk; subst hk; exact h0
  | 1, hk => simp at hk; subst hk; exact h1
  | 2, hk => simp at hk; subst hk; exact h2
  | 3, hk => simp at hk; subst hk; exact h3
theorem lit_57 (X : World) : Rd .i64 (X.alloc (.cells #[.int .i64 5, .int .i64 0, .int .i64 0, .int .i64 7] 2)) (some ⟨X.heap.size, 0, none⟩) [5, 0, 0, 7] := by
  have hb := heap_alloc_new X (.cells #[.int .i64 5, .int .i64 0, .int .i64 0, .int .i64 7] 2)
  exact lit4w (box_cell hb rfl) (box_cell hb rfl) (box_cell hb rfl) (box_cell hb rfl)
set_option maxRecDepth 100000 in
set_option maxHeartbeats 8000000 in
theorem shown_any (w : World) : Calls Tryz.prog 8 #[] w fun e w' => e = .returned (.bool true) ∧ Below w.heap.size w w' := by
  have HV0 : Hid (Have w w []) := Lib.hid (Below.refl _ _)
  have l4 : ([5, 0, 0, 7] : List Int).length = 4 := rfl
  have eq4 : decide (([5, 0, 0, 7] : List Int) = [5, 0, 0, 7]) = true := decide_eq_true rfl
  go_enter Tryz.func8, Tryz.ntmps8
  go_wp2_with (first
    | (go_at_call 19; (with_reducible refine (rsame_any _ _ _ _ _ _ [5, 0, 0, 7] [5, 0, 0, 7] _ (RD.out.up (by repeat' (first | (with_reducible exact Below.refl _ _) | (with_reducible assumption) | (with_reducible refine below_over ?_ _ _) | (with_reducible refine Lw.below_alloc ?_ _) | (with_reducible refine Below.drew ?_) | (with_reducible refine below_drewN ?_ _) | (with_reducible refine Below.setCell ?_ ?_ _) | go_size))) (lit_57 _) l4 l4 (by omega) (by omega)).mono ?_); rintro e w9 ⟨rfl, hb⟩; have HV9 := Lib.hid ((HV8.out.up (by repeat' (first | (with_reducible exact Below.refl _ _) | (with_reducible assumption) | (with_reducible refine below_over ?_ _ _) | (with_reducible refine Lw.below_alloc ?_ _) | (with_reducible refine Below.drew ?_) | (with_reducible refine below_drewN ?_ _) | (with_reducible refine Below.setCell ?_ ?_ _) | go_size))).up hb); clear hb)
    | (go_at_call 16; (with_reducible refine (tr_any p F2 _ _ _ _ _ (stI HV7.out.i0) (by decide) (by decide) (by decide) (by decide) rg_28).mono ?_); rintro e w8 ⟨rfl, hb⟩; have RD := Lib.hid (RD.out.up hb); have HV8 := Lib.hid (HV7.out.up hb); clear hb)
    | (go_at_call 16; (with_reducible refine (tr_any p F2 _ _ _ _ _ (stI HV6.out.i0) (by decide) (by decide) (by decide) (by decide) rg_21).mono ?_); rintro e w7 ⟨rfl, hb⟩; have RD := Lib.hid (RD.out.up hb); have HV7 := Lib.hid (HV6.out.up hb); clear hb)
    | (go_at_call 14; (with_reducible refine (tp_16 p F2 _ (stI HV5.out.i0)).mono ?_); rintro e w6 ⟨A, cap, rfl, hr, hb⟩; have RD := Lib.hid hr; have HV6 := Lib.hid (HV5.out.up hb); clear hb hr)
    | (go_at_call 18; (with_reducible refine (tk_5 p F2 _ (stI HV4.out.i0)).mono ?_); rintro e w5 ⟨rfl, hb⟩; have HV5 := Lib.hid (HV4.out.up hb); clear hb)
    | (go_at_call 16; (with_reducible refine (tr_any p F2 _ _ _ _ _ (stI HV3.out.i0) (by decide) (by decide) (by decide) (by decide) rg_16).mono ?_); rintro e w4 ⟨rfl, hb⟩; have HV4 := Lib.hid (HV3.out.up hb); clear hb)
    | (go_at_call 12; (with_reducible refine (tu_any p F1 _ _ _ _ _ _ (stI HV2.out.i0) (by decide) (by decide) (by decide) (by decide) sT_2).mono ?_); rintro e w3 ⟨rfl, F2, h1, h2, h3⟩; have HV3 := Lib.hid (HV2.out.turn_0 (stT p F2 lT (stsOf lT [(1, 5), (6, 7)])) h1 h2 h3); clear h1 h2 h3)
    | (go_at_call 12; (with_reducible refine (tu_any p F _ _ _ _ _ _ (stI HV1.out.i0) (by decide) (by decide) (by decide) (by decide) sT_1).mono ?_); rintro e w2 ⟨rfl, F1, h1, h2, h3⟩; have HV2 := Lib.hid (HV1.out.turn_0 (stT p F1 lT (stsOf lT [(1, 5)])) h1 h2 h3); clear h1 h2 h3)
    | (go_at_call 10; (with_reducible refine (tn_1 _).mono ?_); rintro e w1 ⟨p, F, rfl, h1, h2, hb⟩; have HV1 := Lib.hid (HV0.out.push (stT p F lT (stsOf lT [])) hb h1 h2); clear h1 h2 hb))
  go_ret
  exact ⟨ret_bs (by first | rfl | (simp [*]; done)), HV9.out.below⟩
end Go.Proofs.YtbifihhfoanmgaaGreat.Spn
