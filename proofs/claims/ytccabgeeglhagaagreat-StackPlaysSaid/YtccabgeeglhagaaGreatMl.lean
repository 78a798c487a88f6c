/- Texts that the statements of this seat lean on, put together: StkUpd, StkApp, StkGet, StkLd, StkNew, StkRnd, StkCpy, StkCode, StkFed. -/
import Derived.Test.YtccabgeeglhagaaGreatMh
import Derived.Test.YtccabgeeglhagaaGreatMi
import Derived.Test.YtccabgeeglhagaaGreatMj
import Derived.Test.YtccabgeeglhagaaGreatMk
import Derived.Maps.AppendAt
import Derived.Deep.LoopGhost
import Derived.Deep.RegionHeld3
import Derived.Deep.DeepCutAuto
import Derived.Deep.QuietTactic
import Derived.BigQuiet
/- The code's Update of a stack: all levels are asked, then all are updated. Printed by wip/gen/stk11.py. -/
namespace Go.Proofs.YtccabgeeglhagaaGreat.Stk
open Go Go.RowKit Lw Grd Lin Con Shp Sk Exa Lev Go.Shelf
set_option linter.unusedVariables false
set_option linter.unusedSimpArgs false
theorem above_up {c : Cfg} {k : Int} (hr : IsRight c) (k0 : 0 ≤ k) (hk : k < keys c 0) {i : Nat} (hi : (i : Int) ≤ c.bt) : aboveV c i k = upK k i ∧ 0 ≤ upK k i ∧ upK k i ≤ k := by
  have h1 : keys c i ≠ 0 := by have := keys_pos.2 ⟨hr, by omega, hi⟩; omega
  have h2 : aboveOk c i k = true := decide_eq_true ⟨h1, hk⟩
  have hp : (0 : Int) < ((2 ^ i : Nat) : Int) := by have := Nat.one_le_two_pow (n := i); omega
  refine ⟨?_, Int.ediv_nonneg k0 (Int.le_of_lt hp), Int.ediv_le_self _ k0⟩
  unfold aboveV upK
  rw [if_pos h2]
  simp
theorem own_cell {w : World} {B : Nat} {e : TypeId} {hdr : Value} {vals : List Value} (h : (ownT B e hdr vals).I w) (hl : 0 < vals.length) : ∃ g cap, hdr = .slice (some ⟨g, 0, none⟩) vals.length cap ∧ vals.length ≤ cap ∧ cap ≤ maxLen ∧ ∀ (j : Nat) (v : Value), vals[j]? = some v → w.cell? ⟨g, j, none⟩ = some v := by
  have h1 : w.ownsRow B e 1 hdr vals.length vals := h
  rcases h1.2 with h0 | ⟨g, cap, cur, rfl, h2, h3, h4, h5, h6⟩
  · have := h0.2
    rw [this] at hl
    simp at hl
  · refine ⟨g, cap, rfl, h4, by assumption, fun j v hj => ?_⟩
    have h7 := h1.cells (g := g) rfl j v hj
    cases j with
    | zero => simpa [Addr.add] using h7
    | succ j => simpa [Addr.add] using h7
/-- A level's Check and Update through the closures. -/
theorem uchk_any (v : Value) (Q : Nat → Prop) (c : Cfg) (l : Int) (st : LS) (k d : Int) (bd : Nat) (w : World) (h : ELV w v Q c l st) (hd : w.cell? ⟨bd, 0, none⟩ = some (.int .i64 d)) (k0 : 0 ≤ k) (k1 : k ≤ 18446744073709551615) (d0 : -9223372036854775808 ≤ d) (d1 : d ≤ 9223372036854775807) :
    Calls Tryz.prog 36 #[v, .int .u64 k, .pointer (some ⟨bd, 0, none⟩)] w fun e w' => e = .returned (.int .i64 (lsCode c l st k d)) ∧ Below w.heap.size w w' := by
  have HE := Lib.hid h
  have K0 := Lib.hid k0
  have K1 := Lib.hid k1
  have D0 := Lib.hid d0
  have D1 := Lib.hid d1
  clear k0 k1 d0 d1 h
  cases st with
  | A L =>
    obtain ⟨p, rfl, h2⟩ := HE.out.2
    have HX := Lib.hid h2
    clear h2
    go_enter Tryz.func36, Tryz.ntmps36
    go_wp2_with (go_at_call 109; (with_reducible refine (echeck_any p Q c l L k d _ HX.out K0.out K1.out D0.out D1.out).mono ?_); rintro e w' ⟨rfl, hb⟩)
    go_ret
    exact ⟨rfl, hb⟩
  | S L =>
    obtain ⟨p, rfl, h2⟩ := HE.out.2
    have HX := Lib.hid h2
    clear h2
    go_enter Tryz.func36, Tryz.ntmps36
    go_wp2_with (go_at_call 127; (with_reducible refine (scheck_any p Q c l L k d _ HX.out K0.out K1.out D0.out D1.out).mono ?_); rintro e w' ⟨rfl, hb⟩)
    go_ret
    exact ⟨rfl, hb⟩
theorem uupd_any (v : Value) (Q : Nat → Prop) (c : Cfg) (l : Int) (st : LS) (k d : Int) (bd : Nat) (w : World) (h : ELV w v Q c l st) (hd : w.cell? ⟨bd, 0, none⟩ = some (.int .i64 d)) (k0 : 0 ≤ k) (k1 : k ≤ 18446744073709551615) (d0 : -9223372036854775808 ≤ d) (d1 : d ≤ 9223372036854775807) :
    Calls Tryz.prog 37 #[v, .int .u64 k, .pointer (some ⟨bd, 0, none⟩)] w fun e w' => e = .returned (.int .i64 (lsCode c l st k d)) ∧ ∃ Q', ELV w' v Q' c l (lsRes c l st k d) ∧ Kept Q w w' ∧ (∀ q, Q' q → Q q ∨ w.heap.size ≤ q) := by
  have HE := Lib.hid h
  have K0 := Lib.hid k0
  have K1 := Lib.hid k1
  have D0 := Lib.hid d0
  have D1 := Lib.hid d1
  clear k0 k1 d0 d1 h
  cases st with
  | A L =>
    obtain ⟨p, rfl, h2⟩ := HE.out.2
    have HX := Lib.hid h2
    clear h2
    go_enter Tryz.func37, Tryz.ntmps37
    go_wp2_with (go_at_call 114; (with_reducible refine (eupd_any p Q c l L k d _ HX.out K0.out K1.out D0.out D1.out).mono ?_); rintro e w' ⟨rfl, Q', h3, h4, h5⟩)
    go_ret
    exact ⟨rfl, Q', ⟨HE.out.1, p, rfl, h3⟩, h4, h5⟩
  | S L =>
    obtain ⟨p, rfl, h2⟩ := HE.out.2
    have HX := Lib.hid h2
    clear h2
    go_enter Tryz.func37, Tryz.ntmps37
    go_wp2_with (go_at_call 132; (with_reducible refine (supd_any p Q c l L k d _ HX.out K0.out K1.out D0.out D1.out).mono ?_); rintro e w' ⟨rfl, Q', h3, h4, h5⟩)
    go_ret
    exact ⟨rfl, Q', ⟨HE.out.1, p, rfl, h3⟩, h4, h5⟩
/-- What the iterator leans on, and the box of what is added. -/
def gsT (bs bk bd b B0 : Nat) (c : Cfg) (k d : Int) (hdr : Value) (vals : List Value) : List Thing := [boxT bk 22 #[.int .u64 k], boxT bs 28 #[.pointer (some ⟨b, 0, none⟩)], boxT bd 2 #[.int .i64 d], boxT b 64 #[.int .i64 c.bt, .int .i64 c.rw, .int .i64 c.wd, .int .i64 c.md, .int .u64 c.sd, hdr], ownT B0 57 hdr vals]
theorem above_seq (m : Nat) (hm : 1 ≤ m) (c : Cfg) (hc : c.Ok) (k d : Int) (k0 : 0 ≤ k) (k1 : k ≤ 18446744073709551615) (bs bk bd b B0 : Nat) (hdr : Value) (vals : List Value) (h1 : 0 < vals.length) (hN : vals.length ≤ 60) (F0 : Nat → Prop) (w0 w : World) (ls : List Thing) (hh : HoldC F0 w0 w (gsT bs bk bd b B0 c k d hdr vals ++ ls)) (w1 : World) (hb : Below w.heap.size w w1) :
    SeqStopsK Fence.wide m Tryz.prog 57 #[.pointer (some ⟨bs, 0, none⟩), .pointer (some ⟨bk, 0, none⟩)] (encL vals c k) (KeptG (manyT (gsT bs bk bd b B0 c k d hdr vals)).F) (fun xs => UpTo xs ∧ xs.length = vals.length) UpTo vals.length w1 := fun l J Jx W hW hJ hJx hY h0 => by
  have hh2 := hh.up (hb.trans (hW.mono hb.size))
  have b1 := hh2.i (t := boxT bs 28 #[.pointer (some ⟨b, 0, none⟩)]) (by simp [gsT])
  have b2 := hh2.i (t := boxT bk 22 #[.int .u64 k]) (by simp [gsT])
  have b3 := hh2.i (t := boxT b 64 #[.int .i64 c.bt, .int .i64 c.rw, .int .i64 c.wd, .int .i64 c.md, .int .u64 c.sd, hdr]) (by simp [gsT])
  have b4 := hh2.i (t := ownT B0 57 hdr vals) (by simp [gsT])
  have hG : ∀ k', (manyT (gsT bs bk bd b B0 c k d hdr vals)).F k' → k' < W.heap.size := fun k' hk => by
    obtain ⟨t, ht, hk2⟩ := hk
    exact t.lt W (hh2.i (List.mem_append_left _ ht)) k' hk2
  obtain ⟨g, cap, rfl, hcap, hmx, hcs⟩ := own_cell b4 h1
  exact above_iter m hm c hc k k0 k1 l bs bk b g cap _ vals hN ⟨boxT bs 28 #[.pointer (some ⟨b, 0, none⟩)], by simp [gsT], rfl⟩ ⟨boxT bk 22 #[.int .u64 k], by simp [gsT], rfl⟩ ⟨boxT b 64 #[.int .i64 c.bt, .int .i64 c.rw, .int .i64 c.wd, .int .i64 c.md, .int .u64 c.sd, .slice (some ⟨g, 0, none⟩) vals.length cap], by simp [gsT], rfl⟩ ⟨ownT B0 57 (.slice (some ⟨g, 0, none⟩) vals.length cap) vals, by simp [gsT], rfl⟩ J Jx W hG hJ hY (box_cell b1 rfl) (box_cell b2 rfl) b3 hcs h0
/-- What the first error of all is in a mode that does not take away. -/
theorem ers_mode {c : Cfg} {k d : Int} {sts : List LS} {w : World} {v : Value} {Q : Nat → Prop} {st : LS} (hr : IsRight c) (k0 : 0 ≤ k) (hk : k < keys c 0) (hm : c.md = 2 ∧ d < 0) (h0 : sts[0]? = some st) (h : ELV w v Q c ((0 : Nat) : Int) st) : ers c k d 0 sts = 3 := by
  have hu : upK k 0 = k := by simp [upK]
  have e1 : lsCode c ((0 : Nat) : Int) st (upK k 0) d = 3 := by
    rw [hu]
    cases st with
    | A L =>
      obtain ⟨p, rfl, h2⟩ := h.2
      have h3 := h2.size.1
      exact (ex_mode (by rw [h3]; exact hk) hm).1
    | S L =>
      show upCode c ((0 : Nat) : Int) L k d = 3
      unfold upCode
      rw [if_neg (by simp; exact hk), if_pos hm.1]
      exact (rs_neg (cols_meet k0 (by simpa using hk)) hm.2).1
  have h2 := ers_first c k d 0 sts 0 st (fun i s hi => by omega) h0 (by rw [Nat.add_zero, e1]; decide)
  rw [h2, Nat.add_zero, e1]
/-- All levels are asked. -/
theorem chk_first (c : Cfg) (hr : IsRight c) (hc : c.Ok) (k d : Int) (k0 : 0 ≤ k) (k1 : k ≤ 18446744073709551615) (hk : k < keys c 0) (d0 : -9223372036854775808 ≤ d) (d1 : d ≤ 9223372036854775807) (sts : List LS) (hl : sts.length = c.bt.toNat + 1) (bd b B0 : Nat) (hdr : Value) (vals : List Value) (ts : List Thing) (hrow : LRow elvT c vals ts sts) (F0 : Nat → Prop) (w0 w : World)
    (hh : HoldC F0 w0 w ([boxT bd 2 #[.int .i64 d], boxT b 64 #[.int .i64 c.bt, .int .i64 c.rw, .int .i64 c.wd, .int .i64 c.md, .int .u64 c.sd, hdr], ownT B0 57 hdr vals] ++ ts)) :
    Calls Tryz.prog 34 #[.func (.func 57) #[] #[.pointer (some ⟨w.heap.size, 0, none⟩), .pointer (some ⟨w.heap.size + 1, 0, none⟩)], .func (.func 36) #[] #[.pointer (some ⟨bd, 0, none⟩)]] ((w.alloc (.cells #[.pointer (some ⟨b, 0, none⟩)] 28)).alloc (.cells #[.int .u64 k] 22)) fun e w' =>
      e = .returned (.int .i64 (ers c k d 0 sts)) ∧ HoldC F0 w0 w' ([boxT bd 2 #[.int .i64 d], boxT b 64 #[.int .i64 c.bt, .int .i64 c.rw, .int .i64 c.wd, .int .i64 c.md, .int .u64 c.sd, hdr], ownT B0 57 hdr vals] ++ ts) := by
  have hvl : vals.length = sts.length := hrow.lv
  have hb59 := hr.1
  have hb60 := hr.2.1
  have B1 : Below w.heap.size w (w.alloc (.cells #[.pointer (some ⟨b, 0, none⟩)] 28)) := Lw.below_alloc (Below.refl _ _) _
  have B2 := Lw.below_alloc (Below.refl _ (w.alloc (.cells #[.pointer (some ⟨b, 0, none⟩)] 28))) (.cells #[.int .u64 k] 22)
  have N2 : ((w.alloc (.cells #[.pointer (some ⟨b, 0, none⟩)] 28)).alloc (.cells #[.int .u64 k] 22)).heap[w.heap.size + 1]? = some (.cells #[.int .u64 k] 22 (0, 0)) := by
    have := heap_alloc_new (w.alloc (.cells #[.pointer (some ⟨b, 0, none⟩)] 28)) (.cells #[.int .u64 k] 22)
    rw [World.size_alloc] at this
    exact this
  have h1 := hh.push (boxT w.heap.size 28 #[.pointer (some ⟨b, 0, none⟩)]) B1 (heap_alloc_new w _) (fun k hk => Nat.le_of_eq hk.symm) (cel_box (heap_alloc_new w _))
  have h2 := h1.push (boxT (w.heap.size + 1) 22 #[.int .u64 k]) B2 N2 (fun k hk => Nat.le_of_eq (by simp; exact hk.symm)) (cel_box N2)
  refine (first_1 c k vals _ bd F0 w0 _ (gsT w.heap.size (w.heap.size + 1) bd b B0 c k d hdr vals) ts
    (fun pre ls => ls = ts ∧ (UpTo pre → ∀ (i : Nat) (s : LS), i < pre.length → sts[i]? = some s → lsCode c ((0 + i : Nat) : Int) s (upK k (0 + i)) d = 0))
    (fun pre code ls => ls = ts ∧ (UpTo pre → ∃ (j : Nat) (s : LS), sts[j]? = some s ∧ lsCode c ((0 + j : Nat) : Int) s (upK k (0 + j)) d = code ∧ ∀ (i : Nat) (s : LS), i < j → sts[i]? = some s → lsCode c ((0 + i : Nat) : Int) s (upK k (0 + i)) d = 0))
    h2 ⟨rfl, fun _ i s hi => by simp at hi⟩
    (fun w1 m hm hb => above_seq m hm c hc k d k0 k1 w.heap.size (w.heap.size + 1) bd b B0 hdr vals (by omega) (by omega) F0 w0 _ ts h2 w1 hb)
    ?_).mono ?_
  · rintro us pre ls x W hW ⟨rfl, hp⟩ hlen
    have hx := x.2
    obtain ⟨st, v, Q, e1, e2, e3⟩ := hrow.at (j := x.1) (by omega)
    have e4 : vals[x.1]'x.2 = v := by
      have h9 := List.getElem?_eq_getElem x.2
      rw [e2] at h9
      exact (Option.some.inj h9).symm
    have hE : ELV W v Q c (x.1 : Int) st := hW.i (t := elvT v Q c (x.1 : Int) st) (List.mem_append_right _ (List.mem_append_right _ (List.mem_of_getElem? e3)))
    have hd := box_cell (hW.i (t := boxT bd 2 #[.int .i64 d]) (List.mem_append_right _ (List.mem_append_left _ (by simp [gsT])))) (i := 0) rfl
    obtain ⟨u1, u2, u3⟩ := above_up hr k0 hk (i := x.1) (by omega)
    rw [e4, u1]
    refine (uchk_any v Q c (x.1 : Int) st (upK k x.1) d bd W hE hd u2 (by omega) d0 d1).mono ?_
    rintro e W' ⟨rfl, hb⟩
    have hG : ∀ k', (manyT (gsT w.heap.size (w.heap.size + 1) bd b B0 c k d hdr vals)).F k' → k' < W.heap.size := fun k' hk => by
      obtain ⟨t, ht, hk2⟩ := hk
      exact t.lt W (hW.i (List.mem_append_right _ (List.mem_append_left _ ht))) k' hk2
    refine ⟨_, ls, rfl, others_of (F := fun _ => False) (Kept.of_below hb) (fun _ h => h.elim), KeptG.of_below hG hb, hW.up hb, fun hz => ⟨rfl, fun hup => ?_⟩, fun hz => ⟨rfl, fun hup => ?_⟩⟩
    · obtain ⟨g1, g2⟩ := UpTo.snoc.1 hup
      intro i s hi hs
      rw [List.length_append, List.length_singleton] at hi
      by_cases hlt : i < pre.length
      · exact hp g1 i s hlt hs
      · obtain rfl : i = x.1 := by omega
        rw [e1] at hs
        injection hs with hs
        subst hs
        rw [Nat.zero_add]
        exact hz
    · obtain ⟨g1, g2⟩ := UpTo.snoc.1 hup
      refine ⟨x.1, st, e1, by rw [Nat.zero_add], fun i s hi hs => hp g1 i s (by omega) hs⟩
  · rintro e W' ⟨ls, hW, (⟨rfl, xs, ⟨x1, x2⟩, rfl, hp⟩ | ⟨pre, code, hup, hne, rfl, rfl, hp⟩)⟩
    · refine ⟨?_, hW.drop.drop⟩
      rw [ers_none c k d 0 sts (fun i s hs => hp x1 i s (by have := (List.getElem?_eq_some_iff.1 hs).1; omega) hs)]
    · obtain ⟨j, s, s1, s2, s3⟩ := hp hup
      refine ⟨?_, hW.drop.drop⟩
      rw [ers_first c k d 0 sts j s s3 s1 (by rw [s2]; exact hne), s2]
/-- All levels are updated. -/
theorem upd_first (c : Cfg) (hr : IsRight c) (hc : c.Ok) (k d : Int) (k0 : 0 ≤ k) (k1 : k ≤ 18446744073709551615) (hk : k < keys c 0) (d0 : -9223372036854775808 ≤ d) (d1 : d ≤ 9223372036854775807) (sts : List LS) (hl : sts.length = c.bt.toNat + 1) (he : ers c k d 0 sts = 0) (bd b B0 : Nat) (hdr : Value) (vals : List Value) (ts : List Thing) (hrow : LRow elvT c vals ts sts) (F0 : Nat → Prop) (w0 w : World)
    (hh : HoldC F0 w0 w ([boxT bd 2 #[.int .i64 d], boxT b 64 #[.int .i64 c.bt, .int .i64 c.rw, .int .i64 c.wd, .int .i64 c.md, .int .u64 c.sd, hdr], ownT B0 57 hdr vals] ++ ts)) :
    Calls Tryz.prog 34 #[.func (.func 57) #[] #[.pointer (some ⟨w.heap.size, 0, none⟩), .pointer (some ⟨w.heap.size + 1, 0, none⟩)], .func (.func 37) #[] #[.pointer (some ⟨bd, 0, none⟩)]] ((w.alloc (.cells #[.pointer (some ⟨b, 0, none⟩)] 28)).alloc (.cells #[.int .u64 k] 22)) fun e w' =>
      e = .returned (.int .i64 0) ∧ ∃ ts', LRow elvT c vals ts' (rss c k d 0 sts) ∧ HoldC F0 w0 w' ([boxT bd 2 #[.int .i64 d], boxT b 64 #[.int .i64 c.bt, .int .i64 c.rw, .int .i64 c.wd, .int .i64 c.md, .int .u64 c.sd, hdr], ownT B0 57 hdr vals] ++ ts') := by
  have hvl : vals.length = sts.length := hrow.lv
  have hb59 := hr.1
  have hb60 := hr.2.1
  have B1 : Below w.heap.size w (w.alloc (.cells #[.pointer (some ⟨b, 0, none⟩)] 28)) := Lw.below_alloc (Below.refl _ _) _
  have B2 := Lw.below_alloc (Below.refl _ (w.alloc (.cells #[.pointer (some ⟨b, 0, none⟩)] 28))) (.cells #[.int .u64 k] 22)
  have N2 : ((w.alloc (.cells #[.pointer (some ⟨b, 0, none⟩)] 28)).alloc (.cells #[.int .u64 k] 22)).heap[w.heap.size + 1]? = some (.cells #[.int .u64 k] 22 (0, 0)) := by
    have := heap_alloc_new (w.alloc (.cells #[.pointer (some ⟨b, 0, none⟩)] 28)) (.cells #[.int .u64 k] 22)
    rw [World.size_alloc] at this
    exact this
  have h1 := hh.push (boxT w.heap.size 28 #[.pointer (some ⟨b, 0, none⟩)]) B1 (heap_alloc_new w _) (fun k hk => Nat.le_of_eq hk.symm) (cel_box (heap_alloc_new w _))
  have h2 := h1.push (boxT (w.heap.size + 1) 22 #[.int .u64 k]) B2 N2 (fun k hk => Nat.le_of_eq (by simp; exact hk.symm)) (cel_box N2)
  refine (first_2 c k vals _ bd F0 w0 _ (gsT w.heap.size (w.heap.size + 1) bd b B0 c k d hdr vals) ts
    (fun pre ls => ∃ sts', LRow elvT c vals ls sts' ∧ sts'.length = sts.length ∧ (UpTo pre → ∀ (i : Nat), sts'[i]? = if i < pre.length then (rss c k d 0 sts)[i]? else sts[i]?))
    (fun pre code ls => UpTo pre → False)
    h2 ⟨sts, hrow, rfl, fun _ i => by simp⟩
    (fun w1 m hm hb => above_seq m hm c hc k d k0 k1 w.heap.size (w.heap.size + 1) bd b B0 hdr vals (by omega) (by omega) F0 w0 _ ts h2 w1 hb)
    ?_).mono ?_
  · rintro us pre ls x W hW ⟨sts', hrow', hl', hp⟩ hlen
    have hx := x.2
    obtain ⟨st, v, Q, e1, e2, e3⟩ := hrow'.at (j := x.1) (by omega)
    have e4 : vals[x.1]'x.2 = v := by
      have h9 := List.getElem?_eq_getElem x.2
      rw [e2] at h9
      exact (Option.some.inj h9).symm
    have hm3 : elvT v Q c (x.1 : Int) st ∈ ls := List.mem_of_getElem? e3
    have hE : ELV W v Q c (x.1 : Int) st := hW.i (t := elvT v Q c (x.1 : Int) st) (List.mem_append_right _ (List.mem_append_right _ hm3))
    have hd := box_cell (hW.i (t := boxT bd 2 #[.int .i64 d]) (List.mem_append_right _ (List.mem_append_left _ (by simp [gsT])))) (i := 0) rfl
    obtain ⟨u1, u2, u3⟩ := above_up hr k0 hk (i := x.1) (by omega)
    rw [e4, u1]
    refine (uupd_any v Q c (x.1 : Int) st (upK k x.1) d bd W hE hd u2 (by omega) d0 d1).mono ?_
    rintro e W' ⟨rfl, Q', hE', hk', hq'⟩
    have hG : ∀ k', (manyT (gsT w.heap.size (w.heap.size + 1) bd b B0 c k d hdr vals)).F k' → k' < W.heap.size := fun k' hk => by
      obtain ⟨t, ht, hk2⟩ := hk
      exact t.lt W (hW.i (List.mem_append_right _ (List.mem_append_left _ ht))) k' hk2
    have hW2 : HoldC F0 w0 W ((us ++ gsT w.heap.size (w.heap.size + 1) bd b B0 c k d hdr vals) ++ (ls ++ [])) := by simpa using hW
    have hW3 := hW2.set e3 (elvT v Q' c (x.1 : Int) (lsRes c (x.1 : Int) st (upK k x.1) d)) hE' hk' hq' (cel_elv hE')
    have hW4 : HoldC F0 w0 W' (us ++ (gsT w.heap.size (w.heap.size + 1) bd b B0 c k d hdr vals ++ ls.set x.1 (elvT v Q' c (x.1 : Int) (lsRes c (x.1 : Int) st (upK k x.1) d)))) := by simpa using hW3
    have hst : UpTo (pre ++ [x]) → sts[x.1]? = some st ∧ x.1 = pre.length ∧ UpTo pre := fun hup => by
      obtain ⟨g1, g2⟩ := UpTo.snoc.1 hup
      have g3 := hp g1 x.1
      rw [if_neg (by omega), e1] at g3
      exact ⟨g3.symm, g2, g1⟩
    refine ⟨_, _, rfl, others_of hk' (cel_elv hE), KeptG.of_kept hG hk' (fun k' ⟨t, ht, h5⟩ => hW.apart hm3 ht h5), hW4, fun hz => ⟨sts'.set x.1 (lsRes c (x.1 : Int) st (upK k x.1) d), hrow'.put e2 Q' _, by simp [hl'], fun hup i => ?_⟩, fun hz hup => ?_⟩
    · obtain ⟨s1, s2, s3⟩ := hst hup
      rw [List.length_append, List.length_singleton, List.getElem?_set]
      by_cases hi : x.1 = i
      · subst hi
        have hlt : x.1 < sts'.length := by omega
        rw [if_pos rfl, if_pos hlt, if_pos (by omega), rss_get c k d 0 sts x.1 st s1, Nat.zero_add]
      · rw [if_neg hi, hp s3 i]
        by_cases hi2 : i < pre.length
        · rw [if_pos hi2, if_pos (by omega)]
        · rw [if_neg hi2, if_neg (by omega)]
    · obtain ⟨s1, s2, s3⟩ := hst hup
      have h9 := ers_ok c k d 0 sts he x.1 st s1
      rw [Nat.zero_add] at h9
      exact hz h9
  · rintro e W' ⟨ls, hW, (⟨rfl, xs, ⟨x1, x2⟩, sts', hrow', hl', hp⟩ | ⟨pre, code, hup, hne, rfl, hp⟩)⟩
    · refine ⟨rfl, ls, ?_, hW.drop.drop⟩
      have e9 : sts' = rss c k d 0 sts := List.ext_getElem? (fun i => by
        rw [hp x1 i]
        by_cases hi : i < xs.length
        · rw [if_pos hi]
        · rw [if_neg hi, List.getElem?_eq_none (by omega), List.getElem?_eq_none (by rw [rss_len]; omega)])
      rw [← e9]
      exact hrow'
    · exact (hp hup).elim
end Go.Proofs.YtccabgeeglhagaaGreat.Stk
/- Things held while a stack is made: one more level, a box stored to, things left behind. Printed by wip/gen/stk12.py. -/
namespace Go.Proofs.YtccabgeeglhagaaGreat.Stk
open Go Go.RowKit Lw Grd Lin Con Shp Sk Exa Lev Go.Shelf
set_option linter.unusedVariables false
set_option linter.unusedSimpArgs false
theorem lvs_u : Tryz.prog.underlying 62 = some (.slice 57) := by kernel_rfl
theorem lvs_info : (Tryz.prog.info? 57).map (fun i => (i.zero, i.size, i.bytes)) = some (some .nilIface, 1, 16) := by kernel_rfl
theorem Asun.sub {ts us : List Thing} (h : ts.Sublist us) : Asun us → Asun ts := by
  induction h with
  | slnil => exact id
  | cons a h ih => exact fun g => ih g.2
  | cons_cons a h ih => exact fun g => ⟨fun u hu => g.1 u (h.subset hu), ih g.2⟩
theorem HoldC.sub {F0 : Nat → Prop} {w0 w : World} {ts us : List Thing} (h : HoldC F0 w0 w us) (hs : ts.Sublist us) : HoldC F0 w0 w ts :=
  ⟨⟨h.1.1, fun t ht => h.1.2.1 t (hs.subset ht), Asun.sub hs h.1.2.2⟩, fun t ht => h.2 t (hs.subset ht)⟩
theorem HoldC.start0 {w w' : World} (h : Below w.heap.size w w') : HoldC (fun _ => False) w w' [] := ⟨⟨Kept.of_below h, fun t ht => by simp at ht, trivial⟩, fun t ht => by simp at ht⟩
/-- A new thing behind the others. -/
theorem HoldC.snoc {F0 : Nat → Prop} {w0 w w' : World} {ts : List Thing} (h : HoldC F0 w0 w ts) (t : Thing) (hb : Below w.heap.size w w') (ht : t.I w') (hn : ∀ k, t.F k → w.heap.size ≤ k) (hc : Cel t.F w') : HoldC F0 w0 w' (ts ++ [t]) := by
  have h2 := h.push t hb ht hn hc
  refine ⟨⟨h2.1.1, fun u hu => h2.1.2.1 u (by simpa [or_comm] using hu), Asun.append.2 ⟨h2.1.2.2.2, ⟨fun u hu => by simp at hu, trivial⟩, fun u hu v hv k h3 h4 => ?_⟩⟩, fun u hu => h2.2 u (by simpa [or_comm] using hu)⟩
  rw [List.mem_singleton.1 hv] at h4
  exact h2.1.2.2.1 u hu k h4 h3
/-- One value appended to a row of one's own. -/
theorem HoldC.app {F0 : Nat → Prop} {w0 w w' : World} {fs ts : List Thing} {B : Nat} {e : TypeId} {hdr : Value} {vals : List Value} {v : Value} {g cap : Nat} (h : HoldC F0 w0 w (fs ++ ownT B e hdr vals :: ts)) (own : w'.ownsRow B e 1 (.slice (some ⟨g, 0, none⟩) (vals.length + 1) cap) (vals.length + 1) (vals ++ [v])) (grow : w.grownBy w' hdr.ownBlock) (hat : hdr.ownBlock = some g ∨ g = w.heap.size) :
    HoldC F0 w0 w' (fs ++ ownT B e (.slice (some ⟨g, 0, none⟩) (vals.length + 1) cap) (vals ++ [v]) :: ts) := by
  have hI : (ownT B e (.slice (some ⟨g, 0, none⟩) (vals.length + 1) cap) (vals ++ [v])).I w' := by
    show w'.ownsRow B e 1 _ (vals ++ [v]).length (vals ++ [v])
    rw [List.length_append, List.length_singleton]
    exact own
  refine h.turn _ hI ((Kept.refl _ w).grown grow (fun q e => .inl e)) (fun k hk => ?_) (cel_own hI)
  have hk2 : some g = some k := hk
  injection hk2 with hk2
  rcases hat with h1 | h1
  · exact .inl (show hdr.ownBlock = some k by rw [h1, hk2])
  · exact .inr (by omega)
theorem elv_one {w : World} {v : Value} {F : Nat → Prop} {c : Cfg} {l : Int} {st : LS} (h : ELV w v F c l st) : v.oneCell' = true := by
  cases st with
  | A L =>
    obtain ⟨p, rfl, h2⟩ := h.2
    rfl
  | S L =>
    obtain ⟨p, rfl, h2⟩ := h.2
    rfl
theorem elv_form {w : World} {v : Value} {F : Nat → Prop} {c : Cfg} {l : Int} {st : LS} (h : ELV w v F c l st) : ∃ t p, v = .iface t (.pointer (some p)) := by
  cases st with
  | A L =>
    obtain ⟨p, rfl, h2⟩ := h.2
    exact ⟨_, _, rfl⟩
  | S L =>
    obtain ⟨p, rfl, h2⟩ := h.2
    exact ⟨_, _, rfl⟩
theorem own_nil (B : Nat) (e : TypeId) (w : World) : (ownT B e (.slice none 0 0) []).I w := World.ownsRow_nil _ _ _ _
theorem own_nilF (B : Nat) (e : TypeId) {k m : Nat} (h : (ownT B e (.slice none 0 0) []).F k) : m ≤ k := by
  have h2 : (none : Option Nat) = some k := h
  cases h2
/-- A stack of the code, as a box. -/
abbrev skB (b : Nat) (c : Cfg) (hdr : Value) : Thing := boxT b 64 #[.int .i64 c.bt, .int .i64 c.rw, .int .i64 c.wd, .int .i64 c.md, .int .u64 c.sd, hdr]
theorem skb_set {w : World} {b : Nat} {c : Cfg} {hdr hdr' : Value} (h : (skB b c hdr).I w) : (skB b c hdr').I (w.setCell ⟨b, 5, none⟩ hdr') := by
  have h2 : w.heap[b]? = some (.cells #[.int .i64 c.bt, .int .i64 c.rw, .int .i64 c.wd, .int .i64 c.md, .int .u64 c.sd, hdr] 64 (0, 0)) := h
  obtain ⟨hlt, hk⟩ := Array.getElem?_eq_some_iff.1 h2
  show (w.heap.modify b _)[b]? = _
  rw [Array.getElem?_eq_getElem (by rw [Array.size_modify]; exact hlt), Array.getElem_modify_self, hk]
  rfl
theorem HoldC.store {F0 : Nat → Prop} {w0 w : World} {fs ts : List Thing} {b : Nat} {c : Cfg} {hdr : Value} (h : HoldC F0 w0 w (fs ++ skB b c hdr :: ts)) (hdr' : Value) : HoldC F0 w0 (w.setCell ⟨b, 5, none⟩ hdr') (fs ++ skB b c hdr' :: ts) := by
  have hb := skb_set (hdr' := hdr') (h.i (t := skB b c hdr) (by simp))
  exact h.turn (skB b c hdr') hb (Kept.set (F := (skB b c hdr).F) (Kept.refl _ _) (.inl rfl) 5 hdr') (fun k hk => .inl hk) (cel_box hb)
/-- The stack, as things that hold cells. -/
theorem st_hold {w : World} {b B0 : Nat} {c : Cfg} {hdr : Value} {vals : List Value} {ts : List Thing} {sts : List LS} (hrow : LRow elvT c vals ts sts) (h : (manyT (skB b c hdr :: ownT B0 57 hdr vals :: ts)).I w) : HoldC (manyT (skB b c hdr :: ownT B0 57 hdr vals :: ts)).F w w (skB b c hdr :: ownT B0 57 hdr vals :: ts) := by
  refine ⟨Hold.start h, fun t ht => ?_⟩
  rcases List.mem_cons.1 ht with rfl | ht2
  · exact cel_box (h.1 _ (by simp))
  · rcases List.mem_cons.1 ht2 with rfl | ht3
    · exact cel_own (h.1 _ (by simp))
    · obtain ⟨j, hj⟩ := List.getElem?_of_mem ht3
      have hlt := (List.getElem?_eq_some_iff.1 hj).1
      obtain ⟨st, v, Q, e1, e2, e3⟩ := hrow.at (j := j) (by rw [← hrow.lt]; exact hlt)
      rw [hj] at e3
      injection e3 with e3
      subst e3
      exact cel_elv (show ELV w v Q c (j : Int) st from h.1 _ ht)
/-- A stack that is held. -/
theorem st_of {F0 : Nat → Prop} {w0 w : World} {b B0 : Nat} {c : Cfg} {hdr : Value} {vals : List Value} {ts : List Thing} {sts : List LS} (hr : IsRight c) (hc : c.Ok) (hl : sts.length = c.bt.toNat + 1) (hrow : LRow elvT c vals ts sts) (h : HoldC F0 w0 w (skB b c hdr :: ownT B0 57 hdr vals :: ts)) :
    ST w ⟨b, 0, none⟩ (manyT (skB b c hdr :: ownT B0 57 hdr vals :: ts)).F c sts ∧ Kept F0 w0 w ∧ ∀ q, (manyT (skB b c hdr :: ownT B0 57 hdr vals :: ts)).F q → F0 q ∨ w0.heap.size ≤ q := by
  have h2 := h.1.many
  exact ⟨⟨hr, hc, hl, b, B0, hdr, vals, ts, rfl, hrow, h2.1, rfl⟩, h2.2.1, h2.2.2⟩
end Go.Proofs.YtccabgeeglhagaaGreat.Stk
/- What the code's stack tells of itself. Printed by wip/gen/stk13.py. -/
namespace Go.Proofs.YtccabgeeglhagaaGreat.Stk
open Go Go.RowKit Lw Grd Lin Con Shp Sk Exa Lev Go.Shelf
set_option linter.unusedVariables false
set_option linter.unusedSimpArgs false
theorem cs_config (p : Addr) (F : Nat → Prop) (c : Cfg) (sts : List LS) (w : World) (h : ST w p F c sts) :
    Calls Tryz.prog 21 #[.pointer (some p)] w fun e w' => e = .returned (.agg #[.int .i64 c.bt, .int .i64 c.rw, .int .i64 c.wd, .int .i64 c.md, .int .u64 c.sd]) ∧ Below w.heap.size w w' := by
  obtain ⟨hr, hc, hl, b, B0, hdr, vals, ts, rfl, hrow, hI, rfl⟩ := h
  have HH := Lib.hid (st_hold hrow hI)
  have hb1 := hr.1
  have hb2 := hr.2.1
  have hvl : vals.length = c.bt.toNat + 1 := hrow.lv.trans hl
  obtain ⟨g, cap, rfl, hcap, hmx, hcs⟩ := own_cell (HH.out.i (t := ownT B0 57 hdr vals) (by simp)) (by omega)
  have HCS := Lib.hid hcs
  have c0 := box_cell (HH.out.i (t := skB b c (.slice (some ⟨g, 0, none⟩) vals.length cap)) (by simp)) (i := 0) rfl
  have c1 := box_cell (HH.out.i (t := skB b c (.slice (some ⟨g, 0, none⟩) vals.length cap)) (by simp)) (i := 1) rfl
  have c2 := box_cell (HH.out.i (t := skB b c (.slice (some ⟨g, 0, none⟩) vals.length cap)) (by simp)) (i := 2) rfl
  have c3 := box_cell (HH.out.i (t := skB b c (.slice (some ⟨g, 0, none⟩) vals.length cap)) (by simp)) (i := 3) rfl
  have c4 := box_cell (HH.out.i (t := skB b c (.slice (some ⟨g, 0, none⟩) vals.length cap)) (by simp)) (i := 4) rfl
  have hbl := box_lt (HH.out.i (t := skB b c (.slice (some ⟨g, 0, none⟩) vals.length cap)) (by simp))
  clear hrow hI hcs
  go_enter Tryz.func21, Tryz.ntmps21
  go_wp2
  go_returns
  exact ⟨rfl, (by (repeat' (first | (with_reducible exact Below.refl _ _) | (with_reducible assumption) | (with_reducible refine below_over ?_ _ _) | (with_reducible refine Lw.below_alloc ?_ _) | (with_reducible refine Below.drew ?_) | (with_reducible refine below_drewN ?_ _) | (with_reducible refine Below.setCell ?_ ?_ _) | go_size)))⟩
theorem shas_any (p : Addr) (F : Nat → Prop) (c : Cfg) (sts : List LS) (n : Int) (w : World) (h : ST w p F c sts) (n0 : -9223372036854775808 ≤ n) (n1 : n ≤ 9223372036854775807) :
    Calls Tryz.prog 27 #[.pointer (some p), .int .i64 n] w fun e w' => e = .returned (.bool (decide (0 ≤ n ∧ n ≤ c.bt))) ∧ w' = w := by
  obtain ⟨hr, hc, hl, b, B0, hdr, vals, ts, rfl, hrow, hI, rfl⟩ := h
  have HH := Lib.hid (st_hold hrow hI)
  have hb1 := hr.1
  have hb2 := hr.2.1
  have hvl : vals.length = c.bt.toNat + 1 := hrow.lv.trans hl
  obtain ⟨g, cap, rfl, hcap, hmx, hcs⟩ := own_cell (HH.out.i (t := ownT B0 57 hdr vals) (by simp)) (by omega)
  have HCS := Lib.hid hcs
  have c5 := box_cell (HH.out.i (t := skB b c (.slice (some ⟨g, 0, none⟩) vals.length cap)) (by simp)) (i := 5) rfl
  have L6 : (vals.length : Int) = c.bt + 1 := by omega
  have HX : Hid (∀ x : Bool, x = decide (0 ≤ n ∧ n ≤ c.bt) → x = decide (0 ≤ n ∧ n ≤ c.bt)) := Lib.hid (fun _ h => h)
  clear hrow hI hcs
  by_cases hn : 0 ≤ n
  · by_cases hn2 : n ≤ c.bt
    · have hn3 : n < (vals.length : Int) := by omega
      have e : decide (0 ≤ n ∧ n ≤ c.bt) = true := decide_eq_true ⟨hn, hn2⟩
      rw [e]
      go_enter Tryz.func27, Tryz.ntmps27
      go_wp2
      go_ret
      exact ⟨ret_bl (by first | (simp [hn, hn3]; done) | (simp [hn]; omega)), rfl⟩
    · have hn3 : ¬ n < (vals.length : Int) := by omega
      have e : decide (0 ≤ n ∧ n ≤ c.bt) = false := decide_eq_false (fun g => hn2 g.2)
      rw [e]
      go_enter Tryz.func27, Tryz.ntmps27
      go_wp2
      go_ret
      exact ⟨ret_bl (by first | (simp [hn]; done) | (simp [hn]; omega) | (simp; omega)), rfl⟩
  · have e : decide (0 ≤ n ∧ n ≤ c.bt) = false := decide_eq_false (fun g => hn g.1)
    rw [e]
    go_enter Tryz.func27, Tryz.ntmps27
    go_wp2
    go_ret
    exact ⟨ret_bl (by first | (simp [hn]; done) | (simp [hn]; omega) | (simp; omega)), rfl⟩
theorem st_at {b B0 : Nat} {c : Cfg} {hdr : Value} {vals : List Value} {ts : List Thing} {sts : List LS} {F0 : Nat → Prop} {w0 w : World} (hrow : LRow elvT c vals ts sts) (hH : HoldC F0 w0 w (skB b c hdr :: ownT B0 57 hdr vals :: ts)) {n : Nat} {st : LS} (hn : sts[n]? = some st) : ∃ v Q, vals[n]? = some v ∧ ELV w v Q c (n : Int) st := by
  obtain ⟨st2, v, Q, e1, e2, e3⟩ := hrow.at (j := n) ((List.getElem?_eq_some_iff.1 hn).1)
  rw [hn] at e1
  injection e1 with e1
  subst e1
  exact ⟨v, Q, e2, hH.i (t := elvT v Q c (n : Int) st) (List.mem_cons_of_mem _ (List.mem_cons_of_mem _ (List.mem_of_getElem? e3)))⟩
theorem cs_at (p : Addr) (F : Nat → Prop) (c : Cfg) (sts : List LS) (n : Nat) (st : LS) (w : World) (h : ST w p F c sts) (hn : sts[n]? = some st) :
    Calls Tryz.prog 22 #[.pointer (some p), .int .i64 n] w fun e w' => ∃ (v : Value) (Q : Nat → Prop), e = .returned (.tuple #[v, .bool true]) ∧ ELV w' v Q c n st ∧ (∀ k, Q k → w.heap.size ≤ k) ∧ Below w.heap.size w w' := by
  have HS := Lib.hid h
  have hn2 := (List.getElem?_eq_some_iff.1 hn).1
  obtain ⟨hr, hc, hl, b, B0, hdr, vals, ts, rfl, hrow, hI, rfl⟩ := h
  have HH := Lib.hid (st_hold hrow hI)
  have hb1 := hr.1
  have hb2 := hr.2.1
  have hvl : vals.length = c.bt.toNat + 1 := hrow.lv.trans hl
  obtain ⟨g, cap, rfl, hcap, hmx, hcs⟩ := own_cell (HH.out.i (t := ownT B0 57 hdr vals) (by simp)) (by omega)
  have HCS := Lib.hid hcs
  have c5 := box_cell (HH.out.i (t := skB b c (.slice (some ⟨g, 0, none⟩) vals.length cap)) (by simp)) (i := 5) rfl
  have L6 : (vals.length : Int) = c.bt + 1 := by omega
  have hn3 : (n : Int) ≤ c.bt := by omega
  have hd : decide (0 ≤ (n : Int) ∧ (n : Int) ≤ c.bt) = true := decide_eq_true ⟨by omega, hn3⟩
  have hn4 : (n : Int) < (vals.length : Int) := by omega
  obtain ⟨v, Q, e2, hE⟩ := st_at hrow HH.out hn
  have c6 := hcs n v e2
  have HE := Lib.hid hE
  clear hrow hI hcs hE e2 hn
  go_enter Tryz.func22, Tryz.ntmps22
  go_wp2_with (first
    | (go_at_call 27; (with_reducible refine (shas_any _ _ c sts n _ HS.out (by omega) (by omega)).mono ?_); rintro e w' ⟨rfl, rfl⟩; rw [hd])
    | (go_at_call 30; (with_reducible refine (ev_copy v Q c n st _ HE.out).mono ?_); rintro e w' ⟨u, Q', rfl, hE', hQ', hb⟩; have HE2 := Lib.hid hE'; have HQ2 := Lib.hid hQ'; clear hE' hQ'))
  go_ret2
  exact ⟨_, _, rfl, HE2.out, HQ2.out, hb⟩
theorem cs_atno (p : Addr) (F : Nat → Prop) (c : Cfg) (sts : List LS) (n : Int) (w : World) (h : ST w p F c sts) (hn : n < 0 ∨ c.bt < n) (n0 : -9223372036854775808 ≤ n) (n1 : n ≤ 9223372036854775807) :
    Calls Tryz.prog 22 #[.pointer (some p), .int .i64 n] w fun e w' => e = .returned (.tuple #[.nilIface, .bool false]) ∧ Below w.heap.size w w' := by
  have HS := Lib.hid h
  have hd : decide (0 ≤ n ∧ n ≤ c.bt) = false := decide_eq_false (by omega)
  have N0 := Lib.hid n0
  have N1 := Lib.hid n1
  clear h hn n0 n1
  go_enter Tryz.func22, Tryz.ntmps22
  go_wp2_with (go_at_call 27; (with_reducible refine (shas_any _ _ c sts n _ HS.out N0.out N1.out).mono ?_); rintro e w' ⟨rfl, rfl⟩; rw [hd])
  go_ret2
  exact ⟨rfl, (by (repeat' (first | (with_reducible exact Below.refl _ _) | (with_reducible assumption) | (with_reducible refine below_over ?_ _ _) | (with_reducible refine Lw.below_alloc ?_ _) | (with_reducible refine Below.drew ?_) | (with_reducible refine below_drewN ?_ _) | (with_reducible refine Below.setCell ?_ ?_ _) | go_size)))⟩
theorem spv_no {c : Cfg} {sts : List LS} {n : Int} (hl : sts.length = c.bt.toNat + 1) (hb : 1 ≤ c.bt) (hn : ¬ (0 ≤ n ∧ n ≤ c.bt)) (i : Int) : spV c sts n i = 0 ∧ spC c sts n i = 2 ∧ lvFl sts n = [] := by
  unfold spV spC lvFl
  by_cases h0 : 0 ≤ n
  · rw [if_pos h0, if_pos h0, if_pos h0, List.getElem?_eq_none (by omega)]
    exact ⟨rfl, rfl, rfl⟩
  · rw [if_neg h0, if_neg h0, if_neg h0]
    exact ⟨rfl, rfl, rfl⟩
theorem spv_yes {c : Cfg} {sts : List LS} {n : Nat} {st : LS} (hn : sts[n]? = some st) (i : Int) : spV c sts (n : Int) i = lsPtV c n st i ∧ spC c sts (n : Int) i = lsPtC c n st i ∧ lvFl sts (n : Int) = st.fl := by
  unfold spV spC lvFl
  rw [if_pos (by omega), if_pos (by omega), if_pos (by omega), Int.toNat_natCast, hn]
  exact ⟨rfl, rfl, rfl⟩
set_option maxHeartbeats 8000000 in
theorem cs_point (p : Addr) (F : Nat → Prop) (c : Cfg) (sts : List LS) (n i : Int) (w : World) (h : ST w p F c sts) (n0 : -9223372036854775808 ≤ n) (n1 : n ≤ 9223372036854775807) (i0 : 0 ≤ i) (i1 : i ≤ 18446744073709551615) :
    Calls Tryz.prog 8 #[.pointer (some p), .agg #[.int .i64 n, .int .u64 i]] w fun e w' => e = .returned (.tuple #[.int .i64 (spV c sts n i), .int .i64 (spC c sts n i)]) ∧ Below w.heap.size w w' := by
  have HS := Lib.hid h
  have N0 := Lib.hid n0
  have N1 := Lib.hid n1
  have I0 := Lib.hid i0
  have I1 := Lib.hid i1
  by_cases hd0 : 0 ≤ n ∧ n ≤ c.bt
  · obtain ⟨m, rfl⟩ : ∃ m : Nat, n = m := ⟨n.toNat, by omega⟩
    have hd : decide (0 ≤ (m : Int) ∧ (m : Int) ≤ c.bt) = true := decide_eq_true hd0
    obtain ⟨hr, hc, hl, b, B0, hdr, vals, ts, rfl, hrow, hI, rfl⟩ := h
    have HH := Lib.hid (st_hold hrow hI)
    have hb1 := hr.1
    have hb2 := hr.2.1
    have hvl : vals.length = c.bt.toNat + 1 := hrow.lv.trans hl
    obtain ⟨g, cap, rfl, hcap, hmx, hcs⟩ := own_cell (HH.out.i (t := ownT B0 57 hdr vals) (by simp)) (by omega)
    have HCS := Lib.hid hcs
    have c5 := box_cell (HH.out.i (t := skB b c (.slice (some ⟨g, 0, none⟩) vals.length cap)) (by simp)) (i := 5) rfl
    have L6 : (vals.length : Int) = c.bt + 1 := by omega
    have hn4 : (m : Int) < (vals.length : Int) := by omega
    have hn5 : m < vals.length := by omega
    have hn6 : (0 : Int) ≤ (m : Int) := by omega
    obtain ⟨st, hst⟩ : ∃ st, sts[m]? = some st := ⟨_, List.getElem?_eq_getElem (by omega)⟩
    obtain ⟨e1, e2, _⟩ := spv_yes (c := c) hst i
    rw [e1, e2]
    obtain ⟨v, Q, e3, hE⟩ := st_at hrow HH.out hst
    have c6 := hcs m v e3
    have HE := Lib.hid hE
    have hd1 := hd0.2
    have hlt5 := cell_lt c5
    have hlt6 := cell_lt c6
    clear hrow hI hcs hE e3 hst e1 e2 hd0 n0 n1 i0 i1 L6 hvl
    cases st with
    | A L =>
      obtain ⟨q, rfl, h2⟩ := HE.out.2
      have HX := Lib.hid h2
      clear h2
      go_enter Tryz.func8, Tryz.ntmps8
      go_wp2_with (go_at_call 27; (with_reducible refine (shas_any _ _ c sts m _ (HS.out.up (Lw.below_alloc (Below.refl _ _) _)) N0.out N1.out).mono ?_); rintro e w' ⟨rfl, rfl⟩; rw [hd])
      have k5 := cell_up c5 (Lw.below_alloc (Below.refl _ w) (.cells #[.int .i64 m, .int .u64 i] 39))
      have k6 := cell_up c6 (Lw.below_alloc (Below.refl _ w) (.cells #[.int .i64 m, .int .u64 i] 39))
      have q0 : (w.alloc (.cells #[.int .i64 m, .int .u64 i] 39)).cell? ⟨w.heap.size, 0, none⟩ = some (.int .i64 m) := box_cell (heap_alloc_new w _) rfl
      have q1 : (w.alloc (.cells #[.int .i64 m, .int .u64 i] 39)).cell? ⟨w.heap.size, 1, none⟩ = some (.int .u64 i) := box_cell (heap_alloc_new w _) rfl
      have B0w : Below w.heap.size w (w.alloc (.cells #[.int .i64 m, .int .u64 i] 39)) := Lw.below_alloc (Below.refl _ _) _
      have HX1 := Lib.hid (HX.out.up B0w)
      obtain ⟨W, hW⟩ : ∃ W, w.alloc (.cells #[.int .i64 m, .int .u64 i] 39) = W := ⟨_, rfl⟩
      have hWs : w.heap.size < W.heap.size := by rw [← hW]; simp
      rw [hW] at k5 k6 q0 q1 B0w HX1 ⊢
      clear hW
      go_region_held3 (fun w' => Below W.heap.size W w' ∧ w'.cell? ⟨b, 5, none⟩ = some (.slice (some ⟨g, 0, none⟩) vals.length cap) ∧ w'.cell? ⟨w.heap.size, 0, none⟩ = some (.int .i64 m) ∧ w'.cell? ⟨w.heap.size, 1, none⟩ = some (.int .u64 i) ∧ w'.cell? ⟨g, m, none⟩ = some (.iface 99 (.pointer (some q)))) (first | (refine ⟨?_, ?_, ?_, ?_, ?_⟩ <;> (first | (with_reducible assumption) | (with_reducible refine cell_up k5 ?_) | (with_reducible refine cell_up k6 ?_) | (with_reducible refine cell_up q0 ?_) | (with_reducible refine cell_up q1 ?_) | skip) <;> (repeat' (first | (with_reducible exact Below.refl _ _) | (with_reducible assumption) | (with_reducible refine below_over ?_ _ _) | (with_reducible refine Lw.below_alloc ?_ _) | (with_reducible refine Below.drew ?_) | (with_reducible refine below_drewN ?_ _) | go_size)))) (first
        | (go_at_call 113; (with_reducible refine (epoint_any q Q c m L i _ (HX1.out.up (by (repeat' (first | (with_reducible exact Below.refl _ _) | (with_reducible assumption) | (with_reducible refine below_over ?_ _ _) | (with_reducible refine Lw.below_alloc ?_ _) | (with_reducible refine Below.drew ?_) | (with_reducible refine below_drewN ?_ _) | (with_reducible refine Below.setCell ?_ ?_ _) | go_size)))) I0.out I1.out).mono ?_); rintro e w5 ⟨rfl, hb⟩; obtain ⟨bs, d, rfl⟩ := below_grow hb; clear hb))
      all_goals go_wp2
      all_goals go_ret2
      all_goals exact ⟨rfl, B0w.trans ((show Below W.heap.size W _ from (by (repeat' (first | (with_reducible exact Below.refl _ _) | (with_reducible assumption) | (with_reducible refine below_over ?_ _ _) | (with_reducible refine Lw.below_alloc ?_ _) | (with_reducible refine Below.drew ?_) | (with_reducible refine below_drewN ?_ _) | (with_reducible refine Below.setCell ?_ ?_ _) | go_size)))).mono B0w.size)⟩
    | S L =>
      obtain ⟨q, rfl, h2⟩ := HE.out.2
      have HX := Lib.hid h2
      clear h2
      go_enter Tryz.func8, Tryz.ntmps8
      go_wp2_with (go_at_call 27; (with_reducible refine (shas_any _ _ c sts m _ (HS.out.up (Lw.below_alloc (Below.refl _ _) _)) N0.out N1.out).mono ?_); rintro e w' ⟨rfl, rfl⟩; rw [hd])
      have k5 := cell_up c5 (Lw.below_alloc (Below.refl _ w) (.cells #[.int .i64 m, .int .u64 i] 39))
      have k6 := cell_up c6 (Lw.below_alloc (Below.refl _ w) (.cells #[.int .i64 m, .int .u64 i] 39))
      have q0 : (w.alloc (.cells #[.int .i64 m, .int .u64 i] 39)).cell? ⟨w.heap.size, 0, none⟩ = some (.int .i64 m) := box_cell (heap_alloc_new w _) rfl
      have q1 : (w.alloc (.cells #[.int .i64 m, .int .u64 i] 39)).cell? ⟨w.heap.size, 1, none⟩ = some (.int .u64 i) := box_cell (heap_alloc_new w _) rfl
      have B0w : Below w.heap.size w (w.alloc (.cells #[.int .i64 m, .int .u64 i] 39)) := Lw.below_alloc (Below.refl _ _) _
      have HX1 := Lib.hid (HX.out.up B0w)
      obtain ⟨W, hW⟩ : ∃ W, w.alloc (.cells #[.int .i64 m, .int .u64 i] 39) = W := ⟨_, rfl⟩
      have hWs : w.heap.size < W.heap.size := by rw [← hW]; simp
      rw [hW] at k5 k6 q0 q1 B0w HX1 ⊢
      clear hW
      go_region_held3 (fun w' => Below W.heap.size W w' ∧ w'.cell? ⟨b, 5, none⟩ = some (.slice (some ⟨g, 0, none⟩) vals.length cap) ∧ w'.cell? ⟨w.heap.size, 0, none⟩ = some (.int .i64 m) ∧ w'.cell? ⟨w.heap.size, 1, none⟩ = some (.int .u64 i) ∧ w'.cell? ⟨g, m, none⟩ = some (.iface 102 (.pointer (some q)))) (first | (refine ⟨?_, ?_, ?_, ?_, ?_⟩ <;> (first | (with_reducible assumption) | (with_reducible refine cell_up k5 ?_) | (with_reducible refine cell_up k6 ?_) | (with_reducible refine cell_up q0 ?_) | (with_reducible refine cell_up q1 ?_) | skip) <;> (repeat' (first | (with_reducible exact Below.refl _ _) | (with_reducible assumption) | (with_reducible refine below_over ?_ _ _) | (with_reducible refine Lw.below_alloc ?_ _) | (with_reducible refine Below.drew ?_) | (with_reducible refine below_drewN ?_ _) | go_size)))) (first
        | (go_at_call 131; (with_reducible refine (spoint_any q Q c m L i _ (HX1.out.up (by (repeat' (first | (with_reducible exact Below.refl _ _) | (with_reducible assumption) | (with_reducible refine below_over ?_ _ _) | (with_reducible refine Lw.below_alloc ?_ _) | (with_reducible refine Below.drew ?_) | (with_reducible refine below_drewN ?_ _) | (with_reducible refine Below.setCell ?_ ?_ _) | go_size)))) I0.out I1.out).mono ?_); rintro e w5 ⟨rfl, hb⟩; obtain ⟨bs, d, rfl⟩ := below_grow hb; clear hb))
      all_goals go_wp2
      all_goals go_ret2
      all_goals exact ⟨rfl, B0w.trans ((show Below W.heap.size W _ from (by (repeat' (first | (with_reducible exact Below.refl _ _) | (with_reducible assumption) | (with_reducible refine below_over ?_ _ _) | (with_reducible refine Lw.below_alloc ?_ _) | (with_reducible refine Below.drew ?_) | (with_reducible refine below_drewN ?_ _) | (with_reducible refine Below.setCell ?_ ?_ _) | go_size)))).mono B0w.size)⟩
  · have hd : decide (0 ≤ n ∧ n ≤ c.bt) = false := decide_eq_false hd0
    obtain ⟨e1, e2, _⟩ := spv_no HS.out.right.2.2 HS.out.right.1.1 hd0 i
    rw [e1, e2]
    clear h hd0 n0 n1 i0 i1
    go_enter Tryz.func8, Tryz.ntmps8
    go_wp2_with (go_at_call 27; (with_reducible refine (shas_any _ _ c sts n _ (HS.out.up (Lw.below_alloc (Below.refl _ _) _)) N0.out N1.out).mono ?_); rintro e w' ⟨rfl, rfl⟩; rw [hd])
    go_ret2
    exact ⟨rfl, (by (repeat' (first | (with_reducible exact Below.refl _ _) | (with_reducible assumption) | (with_reducible refine below_over ?_ _ _) | (with_reducible refine Lw.below_alloc ?_ _) | (with_reducible refine Below.drew ?_) | (with_reducible refine below_drewN ?_ _) | (with_reducible refine Below.setCell ?_ ?_ _) | go_size)))⟩
theorem cs_total (p : Addr) (F : Nat → Prop) (c : Cfg) (sts : List LS) (w : World) (h : ST w p F c sts) :
    Calls Tryz.prog 18 #[.pointer (some p)] w fun e w' => e = .returned (.int .i64 (spV c sts c.bt 0)) ∧ Below w.heap.size w w' := by
  have HS := Lib.hid h
  obtain ⟨hr, hc, hl, b, B0, hdr, vals, ts, rfl, hrow, hI, rfl⟩ := h
  have HH := Lib.hid (st_hold hrow hI)
  have hb1 := hr.1
  have hb2 := hr.2.1
  have hvl : vals.length = c.bt.toNat + 1 := hrow.lv.trans hl
  obtain ⟨g, cap, rfl, hcap, hmx, hcs⟩ := own_cell (HH.out.i (t := ownT B0 57 hdr vals) (by simp)) (by omega)
  have HCS := Lib.hid hcs
  have c0 := box_cell (HH.out.i (t := skB b c (.slice (some ⟨g, 0, none⟩) vals.length cap)) (by simp)) (i := 0) rfl
  have CP := Lib.hid (cs_point _ _ c sts c.bt 0 w HS.out (by omega) (by omega) (by omega) (by omega))
  clear hrow hI hcs hvl
  go_enter Tryz.func18, Tryz.ntmps18
  go_wp2_with (go_at_call 8; (with_reducible refine CP.out.mono ?_); rintro e w5 ⟨rfl, hb⟩)
  go_ret
  exact ⟨rfl, hb⟩
theorem cs_cells (p : Addr) (F : Nat → Prop) (c : Cfg) (sts : List LS) (n : Int) (w : World) (h : ST w p F c sts) (n0 : -9223372036854775808 ≤ n) (n1 : n ≤ 9223372036854775807) :
    Calls Tryz.prog 13 #[.pointer (some p), .int .i64 n] w fun e w' => ∃ (A : Option Addr) (m cap : Nat), e = .returned (.slice A m cap) ∧ Rd .i64 w' A (lvFl sts n) ∧ (lvFl sts n).length = m ∧ (∀ a, A = some a → w.heap.size ≤ a.block) ∧ Below w.heap.size w w' := by
  have HS := Lib.hid h
  have N0 := Lib.hid n0
  have N1 := Lib.hid n1
  by_cases hd0 : 0 ≤ n ∧ n ≤ c.bt
  · obtain ⟨m, rfl⟩ : ∃ m : Nat, n = m := ⟨n.toNat, by omega⟩
    have hd : decide (0 ≤ (m : Int) ∧ (m : Int) ≤ c.bt) = true := decide_eq_true hd0
    obtain ⟨hr, hc, hl, b, B0, hdr, vals, ts, rfl, hrow, hI, rfl⟩ := h
    have HH := Lib.hid (st_hold hrow hI)
    have hb1 := hr.1
    have hb2 := hr.2.1
    have hvl : vals.length = c.bt.toNat + 1 := hrow.lv.trans hl
    obtain ⟨g, cap, rfl, hcap, hmx, hcs⟩ := own_cell (HH.out.i (t := ownT B0 57 hdr vals) (by simp)) (by omega)
    have HCS := Lib.hid hcs
    have c5 := box_cell (HH.out.i (t := skB b c (.slice (some ⟨g, 0, none⟩) vals.length cap)) (by simp)) (i := 5) rfl
    have L6 : (vals.length : Int) = c.bt + 1 := by omega
    have hn4 : (m : Int) < (vals.length : Int) := by omega
    have hn5 : m < vals.length := by omega
    have hn6 : (0 : Int) ≤ (m : Int) := by omega
    obtain ⟨st, hst⟩ : ∃ st, sts[m]? = some st := ⟨_, List.getElem?_eq_getElem (by omega)⟩
    obtain ⟨_, _, e1⟩ := spv_yes (c := c) hst 0
    rw [e1]
    obtain ⟨v, Q, e3, hE⟩ := st_at hrow HH.out hst
    have c6 := hcs m v e3
    have HE := Lib.hid hE
    clear hrow hI hcs hE e3 hst e1 hd0 n0 n1 L6 hvl
    cases st with
    | A L =>
      obtain ⟨q, rfl, h2⟩ := HE.out.2
      have HX := Lib.hid h2
      clear h2
      go_enter Tryz.func13, Tryz.ntmps13
      go_wp2_with (first
        | (go_at_call 27; (with_reducible refine (shas_any _ _ c sts m _ HS.out N0.out N1.out).mono ?_); rintro e w' ⟨rfl, rfl⟩; rw [hd])
        | (go_at_call 108; (with_reducible refine (ecells_mid q Q c m L _ HX.out).mono ?_); rintro e w5 ⟨g5, cap5, rfl, hm5, hg5, _, _, hb⟩; have HM := Lib.hid hm5; clear hm5))
      go_ret
      exact ⟨_, _, _, rfl, HM.out.rd, rfl, (fun a ha => by injection ha with ha; subst ha; exact hg5), hb⟩
    | S L =>
      obtain ⟨q, rfl, h2⟩ := HE.out.2
      have HX := Lib.hid h2
      clear h2
      go_enter Tryz.func13, Tryz.ntmps13
      go_wp2_with (first
        | (go_at_call 27; (with_reducible refine (shas_any _ _ c sts m _ HS.out N0.out N1.out).mono ?_); rintro e w' ⟨rfl, rfl⟩; rw [hd])
        | (go_at_call 126; (with_reducible refine (scells_mid q Q c m L _ HX.out).mono ?_); rintro e w5 ⟨g5, cap5, rfl, hm5, hg5, _, _, hb⟩; have HM := Lib.hid hm5; clear hm5))
      go_ret
      exact ⟨_, _, _, rfl, HM.out.rd, flat_dims HX.out.dims, (fun a ha => by injection ha with ha; subst ha; exact hg5), hb⟩
  · have hd : decide (0 ≤ n ∧ n ≤ c.bt) = false := decide_eq_false hd0
    obtain ⟨_, _, e1⟩ := spv_no HS.out.right.2.2 HS.out.right.1.1 hd0 0
    rw [e1]
    clear h hd0 n0 n1
    go_enter Tryz.func13, Tryz.ntmps13
    go_wp2_with (go_at_call 27; (with_reducible refine (shas_any _ _ c sts n _ HS.out N0.out N1.out).mono ?_); rintro e w' ⟨rfl, rfl⟩; rw [hd])
    go_ret
    exact ⟨_, _, _, rfl, rd_nil _ _ _, rfl, (fun a ha => by cases ha), (by (repeat' (first | (with_reducible exact Below.refl _ _) | (with_reducible assumption) | (with_reducible refine below_over ?_ _ _) | (with_reducible refine Lw.below_alloc ?_ _) | (with_reducible refine Below.drew ?_) | (with_reducible refine below_drewN ?_ _) | (with_reducible refine Below.setCell ?_ ?_ _) | go_size)))⟩
end Go.Proofs.YtccabgeeglhagaaGreat.Stk
/- The code's Load of a stack. Printed by wip/gen/stk19.py. -/
namespace Go.Proofs.YtccabgeeglhagaaGreat.Stk
open Go Go.RowKit Lw Grd Lin Con Shp Sk Exa Lev Go.Shelf
set_option linter.unusedVariables false
set_option linter.unusedSimpArgs false
theorem cs_loadno (p : Addr) (F : Nat → Prop) (c : Cfg) (sts : List LS) (n : Int) (A : Option Addr) (N cap : Nat) (w : World) (h : ST w p F c sts) (hn : n < 0 ∨ c.bt < n) (n0 : -9223372036854775808 ≤ n) (n1 : n ≤ 9223372036854775807) :
    Calls Tryz.prog 12 #[.pointer (some p), .int .i64 n, .slice A N cap] w fun e w' => e = .returned (.bool false) ∧ Below w.heap.size w w' := by
  have HS := Lib.hid h
  have hd : decide (0 ≤ n ∧ n ≤ c.bt) = false := decide_eq_false (by omega)
  have N0 := Lib.hid n0
  have N1 := Lib.hid n1
  clear h hn n0 n1
  go_enter Tryz.func12, Tryz.ntmps12
  go_wp2_with (go_at_call 27; (with_reducible refine (shas_any _ _ c sts n _ HS.out N0.out N1.out).mono ?_); rintro e w' ⟨rfl, rfl⟩; rw [hd])
  go_ret
  exact ⟨rfl, (by (repeat' (first | (with_reducible exact Below.refl _ _) | (with_reducible assumption) | (with_reducible refine below_over ?_ _ _) | (with_reducible refine Lw.below_alloc ?_ _) | (with_reducible refine Below.drew ?_) | (with_reducible refine below_drewN ?_ _) | (with_reducible refine Below.setCell ?_ ?_ _) | go_size)))⟩
theorem nlA (p : Addr) (w : World) : (nilAhead 317 99 (.pointer (some p)) "Load").run Tryz.prog w = .ok (some false) w := by kernel_rfl
theorem nlS (p : Addr) (w : World) : (nilAhead 317 102 (.pointer (some p)) "Load").run Tryz.prog w = .ok (some false) w := by kernel_rfl
set_option maxHeartbeats 2000000 in
theorem cs_load (p : Addr) (F : Nat → Prop) (c : Cfg) (sts : List LS) (n : Nat) (st : LS) (ad : Addr) (N cap : Nat) (zs : List Int) (w : World) (h : ST w p F c sts) (hst : sts[n]? = some st) (hrd : Rd .i64 w (some ad) zs) (hl : zs.length = N) (hz : In64 zs) (hN : N = st.fl.length) (hap : ¬ F ad.block) :
    Calls Tryz.prog 12 #[.pointer (some p), .int .i64 n, .slice (some ad) N cap] w fun e w' => e = .returned (.bool true) ∧ ∃ F' st', ST w' p F' c (sts.set n st') ∧ st'.fl = zs ∧ Kept F w w' ∧ (∀ q, F' q → F q ∨ w.heap.size ≤ q) := by
  have HS := Lib.hid h
  have hn2 := (List.getElem?_eq_some_iff.1 hst).1
  obtain ⟨hr, hc, hlen, b, B0, hdr, vals, ts, rfl, hrow, hI, rfl⟩ := h
  have HH := Lib.hid (st_hold hrow hI)
  have HO := Lib.hid hc
  have HR := Lib.hid hr
  have HL := Lib.hid hlen
  have HROW := Lib.hid hrow
  have hb1 := hr.1
  have hb2 := hr.2.1
  have hvl : vals.length = c.bt.toNat + 1 := hrow.lv.trans hlen
  obtain ⟨g, gcap, rfl, hcap, hmx, hcs⟩ := own_cell (HH.out.i (t := ownT B0 57 hdr vals) (by simp)) (by omega)
  have c5 := box_cell (HH.out.i (t := skB b c (.slice (some ⟨g, 0, none⟩) vals.length gcap)) (by simp)) (i := 5) rfl
  have hn3 : (n : Int) ≤ c.bt := by omega
  have hd : decide (0 ≤ (n : Int) ∧ (n : Int) ≤ c.bt) = true := decide_eq_true ⟨by omega, hn3⟩
  have hn4 : (n : Int) < (vals.length : Int) := by omega
  have hn5 : n < vals.length := by omega
  have hn6 : (0 : Int) ≤ (n : Int) := by omega
  have hn7 : -9223372036854775808 ≤ (n : Int) := by omega
  have hn8 : (n : Int) ≤ 9223372036854775807 := by omega
  obtain ⟨st2, v, Q, e1, e2, e3⟩ := hrow.at (j := n) hn2
  rw [hst] at e1
  injection e1 with e1
  subst e1
  have c6 := hcs n v e2
  have hE : ELV w v Q c (n : Int) st := HH.out.i (t := elvT v Q c (n : Int) st) (List.mem_cons_of_mem _ (List.mem_cons_of_mem _ (List.mem_of_getElem? e3)))
  have hap2 : ¬ Q ad.block := fun h => hap ⟨elvT v Q c (n : Int) st, List.mem_cons_of_mem _ (List.mem_cons_of_mem _ (List.mem_of_getElem? e3)), h⟩
  have HEND : Hid (∀ (w' : World) (Q' : Nat → Prop) (st' : LS), ELV w' v Q' c (n : Int) st' → Kept Q w w' → (∀ k, Q' k → Q k ∨ w.heap.size ≤ k) → ∃ F', ST w' ⟨b, 0, none⟩ F' c (sts.set n st') ∧ Kept (manyT (skB b c (.slice (some ⟨g, 0, none⟩) vals.length gcap) :: ownT B0 57 (.slice (some ⟨g, 0, none⟩) vals.length gcap) vals :: ts)).F w w' ∧ (∀ q, F' q → (manyT (skB b c (.slice (some ⟨g, 0, none⟩) vals.length gcap) :: ownT B0 57 (.slice (some ⟨g, 0, none⟩) vals.length gcap) vals :: ts)).F q ∨ w.heap.size ≤ q)) := Lib.hid (fun w' Q' st' h1 h2 h3 => by
    have h4 := HoldC.set (pre := [skB b c (.slice (some ⟨g, 0, none⟩) vals.length gcap), ownT B0 57 (.slice (some ⟨g, 0, none⟩) vals.length gcap) vals]) (post := []) (by simpa using HH.out) e3 (elvT v Q' c (n : Int) st') h1 h2 h3 (cel_elv h1)
    have h5 := st_of HR.out HO.out (by rw [List.length_set]; exact HL.out) (HROW.out.put e2 Q' st') (by simpa using h4)
    exact ⟨_, h5.1, h5.2.1, h5.2.2⟩)
  have HRD := Lib.hid hrd
  have HZ := Lib.hid hz
  have HLZ := Lib.hid hl
  have HE := Lib.hid hE
  have HNN := Lib.hid hN
  clear hr hc hlen hrow hI hcs hvl e2 e3 hE hrd hz hl hN hst hap hn2 hb1 hb2 hcap hmx
  cases st with
  | A L =>
    obtain ⟨q, rfl, h2⟩ := HE.out.2
    have CL := Lib.hid (eload_yes q Q c n L (some ad) N cap zs w h2 HRD.out HLZ.out HZ.out (fun a ha => by injection ha with ha; subst ha; exact hap2) HNN.out)
    clear h2
    have nla := nlA
    go_enter Tryz.func12, Tryz.ntmps12
    go_wp2_with (first
      | (go_at_call 27; (with_reducible refine (shas_any _ _ c sts n _ HS.out hn7 hn8).mono ?_); rintro e w' ⟨rfl, rfl⟩; rw [hd])
      | (go_at_call 112; (with_reducible refine CL.out.mono ?_); rintro e w5 ⟨rfl, Q5, h1, h2, h3⟩; have HX5 := Lib.hid (And.intro h1 (And.intro h2 h3)); clear h1 h2 h3))
    go_ret
    obtain ⟨F', f1, f2, f3⟩ := HEND.out w5 Q5 (.A zs) ⟨HE.out.1, q, rfl, HX5.out.1⟩ HX5.out.2.1 HX5.out.2.2
    exact ⟨rfl, F', .A zs, f1, rfl, f2, f3⟩
  | S L =>
    obtain ⟨q, rfl, h2⟩ := HE.out.2
    have hflat : L.flatten.length = rws c * wds c := flat_dims h2.dims
    have CL := Lib.hid (sload_yes q Q c n L (some ad) N cap zs w h2 HRD.out HLZ.out (by have h9 : N = L.flatten.length := HNN.out; rw [h9, hflat]; exact Nat.le_trans (Nat.mul_le_mul (rws_bd HR.out).2.1 (wds_bd HR.out).2.1) (by omega)) HZ.out (fun a ha => by injection ha with ha; subst ha; exact hap2) (HNN.out.trans hflat))
    clear h2 hflat
    have nls := nlS
    go_enter Tryz.func12, Tryz.ntmps12
    go_wp2_with (first
      | (go_at_call 27; (with_reducible refine (shas_any _ _ c sts n _ HS.out hn7 hn8).mono ?_); rintro e w' ⟨rfl, rfl⟩; rw [hd])
      | (go_at_call 130; (with_reducible refine CL.out.mono ?_); rintro e w5 ⟨rfl, Q5, L5, h1, hfl, h2, h3⟩; have HX5 := Lib.hid (And.intro h1 (And.intro h2 h3)); have HF5 := Lib.hid hfl; clear h1 h2 h3 hfl))
    go_ret
    obtain ⟨F', f1, f2, f3⟩ := HEND.out w5 Q5 (.S L5) ⟨HE.out.1, q, rfl, HX5.out.1⟩ HX5.out.2.1 HX5.out.2.2
    exact ⟨rfl, F', .S L5, f1, HF5.out, f2, f3⟩
end Go.Proofs.YtccabgeeglhagaaGreat.Stk
/- The code's New of a stack. Printed by wip/gen/stk12.py. -/
namespace Go.Proofs.YtccabgeeglhagaaGreat.Stk
open Go Go.RowKit Lw Grd Lin Con Shp Sk Exa Lev Go.Shelf
set_option linter.unusedVariables false
set_option linter.unusedSimpArgs false
abbrev cfB (b : Nat) (c : Cfg) : Thing := boxT b 24 #[.int .i64 c.bt, .int .i64 c.rw, .int .i64 c.wd, .int .i64 c.md, .int .u64 c.sd]
theorem cs_none (c : Cfg) (w : World) (h : c.Ok) (hr : ¬ IsRight c) :
    Calls Tryz.prog 6 #[.agg #[.int .i64 c.bt, .int .i64 c.rw, .int .i64 c.wd, .int .i64 c.md, .int .u64 c.sd]] w fun e w' => e = .returned (.tuple #[.pointer none, .int .i64 1]) ∧ Below w.heap.size w w' := by
  have HO := Lib.hid h
  have hm : right c = false := decide_eq_false hr
  clear h hr
  go_enter Tryz.func6, Tryz.ntmps6
  go_wp2_with (go_at_call 24; (with_reducible refine (right_any c _ HO.out).mono ?_); rintro e w' ⟨rfl, hb⟩; obtain ⟨bs, d, rfl⟩ := below_grow hb; clear hb; rw [hm])
  go_ret2
  exact ⟨rfl, (by (repeat' (first | (with_reducible exact Below.refl _ _) | (with_reducible assumption) | (with_reducible refine below_over ?_ _ _) | (with_reducible refine Lw.below_alloc ?_ _) | (with_reducible refine Below.drew ?_) | (with_reducible refine below_drewN ?_ _) | (with_reducible refine Below.setCell ?_ ?_ _) | go_size)))⟩
set_option maxRecDepth 100000 in
set_option maxHeartbeats 2000000 in
theorem cs_new (c : Cfg) (w : World) (h : c.Ok) (hr : IsRight c) :
    Calls Tryz.prog 6 #[.agg #[.int .i64 c.bt, .int .i64 c.rw, .int .i64 c.wd, .int .i64 c.md, .int .u64 c.sd]] w fun e w' => ∃ (p : Addr) (F : Nat → Prop), e = .returned (.tuple #[.pointer (some p), .int .i64 0]) ∧ ST w' p F c (stsOf c []) ∧ (∀ k, F k → w.heap.size ≤ k) ∧ Below w.heap.size w w' := by
  have HO := Lib.hid h
  have HR := Lib.hid hr
  have hm : right c = true := decide_eq_true hr
  have hb1 := hr.1
  have hb2 := hr.2.1
  obtain ⟨j0, hj, hy0, hy1, hy2⟩ := info_parts lvs_info
  have HJ := Lib.hid hj
  have HB1 := Lib.hid ((HoldC.start0 (Below.refl _ w)).push (cfB w.heap.size c) (Lw.below_alloc (Below.refl _ _) _) (heap_alloc_new w _) (fun k hk => Nat.le_of_eq hk.symm) (cel_box (heap_alloc_new w _)))
  clear h hr hj
  go_enter Tryz.func6, Tryz.ntmps6
  go_wp2_with (go_at_call 24; (with_reducible refine (right_any c _ HO.out).mono ?_); rintro e w1 ⟨rfl, hb⟩; rw [hm]; have HV1 := Lib.hid (HB1.out.up hb); clear hb; have g0 := box_cell (HV1.out.i (t := cfB w.heap.size c) (by simp)) (i := 0) rfl; have g1 := box_cell (HV1.out.i (t := cfB w.heap.size c) (by simp)) (i := 1) rfl; have g2 := box_cell (HV1.out.i (t := cfB w.heap.size c) (by simp)) (i := 2) rfl; have g3 := box_cell (HV1.out.i (t := cfB w.heap.size c) (by simp)) (i := 3) rfl; have g4 := box_cell (HV1.out.i (t := cfB w.heap.size c) (by simp)) (i := 4) rfl; have q0 := cell_up g0 (Lw.below_alloc (Below.refl _ w1) (.cells #[.int .i64 c.bt, .int .i64 c.rw, .int .i64 c.wd, .int .i64 c.md, .int .u64 c.sd, .slice none 0 0] 64)))
  have HS := Lib.hid ((HV1.out.push (ownT w.heap.size 57 (.slice none 0 0) []) (Below.refl _ _) (own_nil _ _ _) (fun k hk => own_nilF _ _ hk) (cel_own (own_nil _ _ _))).push (skB w1.heap.size c (.slice none 0 0)) (Lw.below_alloc (Below.refl _ _) _) (heap_alloc_new w1 _) (fun k hk => Nat.le_of_eq hk.symm) (cel_box (heap_alloc_new w1 _)))
  clear g0 g1 g2 g3 g4 q0
  obtain ⟨b, hbq⟩ : ∃ b, w1.heap.size = b := ⟨_, rfl⟩
  rw [hbq] at HS ⊢
  clear hbq
  go_loopw [17] (fun i wr => ∃ (n : Nat) (hdr : Value) (vals : List Value) (ts : List Thing) (sts : List LS), (n : Int) ≤ c.bt + 1 ∧ i = .int .i64 n ∧ LRow elvT c vals ts sts ∧ sts.length = n ∧ (∀ j, j < n → sts[j]? = some (lsZero c j)) ∧ HoldC (fun _ => False) w wr (skB b c hdr :: ownT w.heap.size 57 hdr vals :: cfB w.heap.size c :: ts)) (fun i _ => (c.bt + 1).toNat - (intOf i).toNat)
  case atStart => exact ⟨0, .slice none 0 0, [], [], [], by omega, rfl, LRow.nil _ _, rfl, fun j hj => by omega, HS.out⟩
  case round =>
    obtain ⟨n, hdr, vals, ts, sts, hn, rfl, hrow, hsl, hsj, hv⟩ := hrel
    have HROW := Lib.hid hrow
    have HSL := Lib.hid hsl
    have HSJ := Lib.hid hsj
    have HV := Lib.hid hv
    have LV := Lib.hid (hrow.lv.trans hsl)
    have g0 := box_cell (hv.i (t := cfB w.heap.size c) (by simp)) (i := 0) rfl
    have g1 := box_cell (hv.i (t := cfB w.heap.size c) (by simp)) (i := 1) rfl
    have g2 := box_cell (hv.i (t := cfB w.heap.size c) (by simp)) (i := 2) rfl
    have g3 := box_cell (hv.i (t := cfB w.heap.size c) (by simp)) (i := 3) rfl
    have g4 := box_cell (hv.i (t := cfB w.heap.size c) (by simp)) (i := 4) rfl
    clear hrow hsl hsj hv
    by_cases hlt : (n : Int) < c.bt + 1
    · go_wp2_with (first
        | (go_at_call 25; (with_reducible refine (ev_new c n _ HO.out HR.out (by omega) (by omega)).mono ?_); rintro e w2 ⟨v, Q, rfl, hE, hQ, hb⟩; obtain ⟨ty, pv, rfl⟩ := elv_form hE; have HV2 := Lib.hid (HV.out.snoc (elvT (.iface ty (.pointer (some pv))) Q c n (lsZero c n)) hb hE hQ (cel_elv hE)); have x5 := box_cell (HV2.out.i (t := skB b c hdr) (by simp)) (i := 5) rfl; clear hb hE hQ)
        | (at_builtin; (refine app_val rfl _ _ 62 rfl w.heap.size 57 j0 .nilIface 16 lvs_u HJ.out hy0 hy1 hy2 rfl hdr n vals rfl (by have h7 := (HV2.out.up (Lw.below_alloc (Below.refl _ w2) (.cells #[.iface ty (.pointer (some pv))] 57))).i (t := ownT w.heap.size 57 hdr vals) (by simp); have h8 : World.ownsRow _ _ _ _ hdr vals.length vals := h7; rw [LV.out] at h8; exact h8) (.iface ty (.pointer (some pv))) w2.heap.size rfl (cell_one_new _ _ _) rfl (by unfold maxLen; omega) (by omega) (by have h9 := HV2.out.1.1.size; simp; omega) ?_); intro g6 cap6 w3 own6 grow6 hat6 hl6; have HV3 := Lib.hid (HoldC.app (fs := [skB b c hdr]) (HV2.out.up (Lw.below_alloc (Below.refl _ w2) (.cells #[.iface ty (.pointer (some pv))] 57))) (by rw [LV.out]; exact own6) grow6 hat6); have y5 := box_cell (HV3.out.i (t := skB b c hdr) (by simp)) (i := 5) rfl; have z5 : w3.frozen? ⟨b, 5, none⟩ = false := frozen_of_row w3 b 5 _ _ (HV3.out.i (t := skB b c hdr) (by simp))))
      go_roundw
      case rel =>
        refine ⟨n + 1, .slice (some ⟨g6, 0, none⟩) (n + 1) cap6, vals ++ [.iface ty (.pointer (some pv))], ts ++ [elvT (.iface ty (.pointer (some pv))) Q c n (lsZero c n)], sts ++ [lsZero c n], by omega, by go_num, HROW.out.snoc HSL.out _ Q _, by simp [HSL.out], fun j hj => ?_, ?_⟩
        · by_cases hj2 : j < n
          · rw [List.getElem?_append_left (by rw [HSL.out]; exact hj2)]
            exact HSJ.out j hj2
          · obtain rfl : j = n := by omega
            rw [List.getElem?_append_right (by rw [HSL.out]; exact Nat.le_refl _), HSL.out, Nat.sub_self]
            rfl
        · have h9 := HoldC.store (fs := []) HV3.out (.slice (some ⟨g6, 0, none⟩) (vals.length + 1) cap6)
          rw [LV.out] at h9
          exact h9
      case measure => simp [intOf]; omega
    · go_wp2
      go_ret2
      have he : n = c.bt.toNat + 1 := by omega
      subst he
      obtain ⟨s1, s2, s3⟩ := st_of HR.out HO.out HSL.out HROW.out (HV.out.sub (.cons_cons _ (.cons_cons _ (.cons _ (List.Sublist.refl _)))))
      have e9 : sts = stsOf c [] := List.ext_getElem? (fun j => by
        by_cases hj : j < c.bt.toNat + 1
        · rw [HSJ.out j hj, stsOf_get hj, stOf_nil]
        · rw [List.getElem?_eq_none (by rw [HSL.out]; omega), List.getElem?_eq_none (by rw [stsOf_len]; omega)])
      rw [e9] at s1
      exact ⟨_, rfl, _, s1, fun k hk => (s3 k hk).elim (fun h => h.elim) id, s2.below⟩
end Go.Proofs.YtccabgeeglhagaaGreat.Stk
/- A region that draws its order, in a round of a range over a function: it may be walked as outside of one. By hand. -/
namespace Go.Proofs.YtccabgeeglhagaaGreat.Stk
open Go Go.RowKit Lw
set_option linter.unusedVariables false
/-- None of the operations is a defer statement. -/
def noDefer (ops : Array Oper) : Bool := ops.toList.all (fun o => match o.op with
  | .defer _ => false
  | _ => true)
theorem noDefer_spec {ops : Array Oper} (h : noDefer ops = true) {i : Nat} {o : Oper} (hi : ops[i]? = some o) (c : Call) : o.op ≠ .defer c := fun e => by
  have h2 := List.all_eq_true.1 h o (by
    have h3 : ops.toList[i]? = some o := by rw [Array.getElem?_toList]; exact hi
    exact List.mem_of_getElem? h3)
  rw [e] at h2
  cases h2
theorem wpIn_of_wp {P : Program} {l n : Nat} {o : Oper} {a : Act} {w : World} {K K' : Act → World → Prop} {Q : Exit → Act → World → Prop} (hd : ∀ c, o.op ≠ .defer c) (hK : ∀ a w, K a w → K' a w) (h : o.wp P a w K Q) : o.wpIn (Fence.wide.inRound l) n P a w K' Q := by
  refine ⟨fun _ _ => trivial, ?_⟩
  rw [Oper.semAt_eq _ _ _ hd]
  unfold Oper.wp at h
  revert h
  cases (execOp a.eval o).run P w with
  | ok r w' =>
    cases r with
    | value v => exact hK _ _
    | skip => exact hK _ _
    | defer d => exact hK _ _
    | enter f args =>
      intro h
      refine ⟨fun g => (by cases g), CallsIn.inRound l (callsIn_wide.2 (Calls.mono h ?_))⟩
      intro e w'' he
      cases e with
      | returned v => exact hK _ _ he
      | panicked chain => exact he
      | outgrown => exact he
    | row row args =>
      intro h
      refine ⟨fun g => (by cases g), fun c cs _ => ?_⟩
      obtain ⟨v, w'', h1, h2⟩ := h c cs
      exact ⟨v, w'', hK _ _ h1, stepsIn_wide.2 h2⟩
    | _ => exact fun h => h.elim
  | halt s w' =>
    cases s with
    | panic v => exact id
    | _ => exact fun h => h.elim
theorem wpAnyIn_of_any {P : Program} {l n : Nat} {md : Region.Mode} {ops : Array Oper} {Q : Exit → Act → World → Prop} (hd : noDefer ops = true) (hQ : ¬ LetsOut Q) : ∀ (fuel : Nat) (listed : Array Bool) (a : Act) (w : World), wpAny P md ops Q fuel listed a w → wpAnyIn (Fence.wide.inRound l) n P md ops Q fuel listed a w
  | 0, _, _, _, h => h
  | fuel + 1, listed, a, w, h => ⟨h.1, fun i hi => by
    have h2 := h.2 i hi
    unfold wpOp at h2
    unfold wpOpIn
    revert h2
    cases ho : ops[i]? with
    | none => exact wpAnyIn_of_any hd hQ fuel _ a w
    | some o =>
      by_cases hw : Region.wanted o (yielded ops a.tmps) = true
      · simp only [hw, if_true]
        rintro (h3 | h3)
        · exact wpIn_of_wp (noDefer_spec hd ho) (fun a w => wpAnyIn_of_any hd hQ fuel _ a w) h3
        · exact absurd h3.2 hQ
      · simp only [hw]
        exact fun h => ⟨fun _ _ => trivial, wpAnyIn_of_any hd hQ fuel _ _ w h⟩⟩
/-- The beginning. -/
theorem region_round {P : Program} {l n id : Nat} {ops : Array Oper} {Q : Exit → Act → World → Prop} {S : World → Prop} {a : Act} {w : World} (hm : P.follows .mixedOrders = true) (hd : noDefer ops = true) (hQ : ¬ LetsOut Q) (hS : S w.drew) (h : S w.drew → wpAnyH P .any ops Q S ops.size (Array.replicate ops.size false) a w.drew) : (Code.region id ops true).wpIn (Fence.wide.inRound l) n P Q a w :=
  wpIn_region_any hm (wpAnyIn_of_any hd hQ _ _ _ _ (wpAny_of_held _ _ _ _ (h hS)))
/-- One value appended, in a region that draws its order: the row lies where it lay, or in a new block. -/
theorem appat_step {P : Program} {w : World} {ops : Array Oper} {o : Oper} {a : Act} {K : Act → World → Prop} {Q : Exit → Act → World → Prop} {E : Prop} (hgd : o.guard = none) (s x : Operand) (t : TypeId)
    (ho : o.op = .call { callee := .builtin .append, args := #[s, x], argTypes := #[t, t] })
    (base : Nat) (e : TypeId) (i : TypeInfo) (z : Value) (bytes : Nat) (ht : P.underlying t = some (.slice e)) (hi : P.info? e = some i) (hz : i.zero = some z) (hsize : i.size = 1) (hby : i.bytes = bytes) (hzs : z.cells.size = 1)
    (v : Value) (n : Nat) (xs : List Value) (hs : a.eval s = v) (hown : w.ownsRow base e 1 v n xs)
    (X : Value) (B : Nat) (hx : a.eval x = .slice (some ⟨B, 0, none⟩) 1 1) (hc : ∀ j u, ([X] : List Value)[j]? = some u → w.cell? ((⟨B, 0, none⟩ : Addr).add j) = some u) (hX : X.oneCell' = true) (h63 : n + 1 ≤ maxLen) (hbytes : (n + 1) * bytes ≤ 140737488355328) (hbase : base ≤ w.heap.size)
    (h : ∀ g cap w', w'.ownsRow base e 1 (.slice (some ⟨g, 0, none⟩) (n + 1) cap) (n + 1) (xs ++ [X]) → w.grownBy w' v.ownBlock → (v.ownBlock = some g ∨ g = w.heap.size) → K (a.put o.dst (.slice (some ⟨g, 0, none⟩) (n + 1) cap)) w') :
    if Region.wanted o (yielded ops a.tmps) = true then Oper.wp P o a w K Q else E := by
  rw [if_pos (by simp [Region.wanted, hgd])]
  obtain ⟨v', w', hr, h2, h3, h4, h5⟩ := run_append_own_at (P := P) w base t o.type e i z 1 bytes ht hi hz hsize hby hzs (by decide) v n xs hown ⟨B, 0, none⟩ 1 1 [X] rfl hc (by intro u hu; simp at hu; subst hu; exact hX) h63 hbytes hbase
  rcases h2.2 with ⟨h6, h7⟩ | ⟨g, cap, cur, rfl, h6⟩
  · simp at h7
  · unfold Oper.wp
    simp [execOp, ho, resolve, invoke, builtin, hs, hx, hr, Result.andThen]
    refine h g cap w' h2 h3 ?_
    rcases h5 with h8 | h8
    · exact .inl (show v.ownBlock = some g from h8.symm.trans rfl)
    · have h9 : some g = some w.heap.size := h8
      injection h9 with h9
      exact .inr h9
end Go.Proofs.YtccabgeeglhagaaGreat.Stk
/- The code's Copy of a stack. Printed by wip/gen/stk15.py. -/
namespace Go.Proofs.YtccabgeeglhagaaGreat.Stk
open Go Go.RowKit Lw Grd Lin Con Shp Sk Exa Lev Go.Shelf
set_option linter.unusedVariables false
set_option linter.unusedSimpArgs false
attribute [local go_sem] Oper.semAt_some
theorem values_any (a : Option Addr) (len cap : Nat) (w : World) :
    Calls Tryz.prog 29 #[.slice a len cap] w fun e w' => e = .returned (.func (.func 50) #[] #[.pointer (some ⟨w.heap.size, 0, none⟩)]) ∧ w' = w.alloc (.cells #[.slice a len cap] 62) := by
  go_enter Tryz.func29, Tryz.ntmps29
  go_wp2
  go_ret
  exact ⟨rfl, rfl⟩
def encV (vals : List Value) (x : Lof vals.length) : Array Value := #[vals[x.1]'x.2]
set_option maxRecDepth 100000 in
set_option maxHeartbeats 2000000 in
theorem values_iter (m : Nat) (hm : 1 ≤ m) (l bs g cap : Nat) (G : Nat → Prop) (vals : List Value) (hN : vals.length ≤ 60) (hbs : G bs) (hg : G g) (J Jx : List (Lof vals.length) → World → Prop)
    (W : World) (hY : ∀ pre x W, J pre W → pre.length < vals.length → YieldAt Fence.wide (m - 1) Tryz.prog l (encV vals x) W fun e W' => (e = .returned (.bool true) ∧ J (pre ++ [x]) W' ∧ KeptG G W W') ∨ (e = .returned (.bool false) ∧ Jx (pre ++ [x]) W'))
    (h1 : W.cell? ⟨bs, 0, none⟩ = some (.slice (some ⟨g, 0, none⟩) vals.length cap)) (h4 : ∀ (j : Nat) (v : Value), vals[j]? = some v → W.cell? ⟨g, j, none⟩ = some v) (h0 : J [] W) :
    CallsIn Fence.wide m Tryz.prog 50 #[.func (.yield l) #[] #[], .pointer (some ⟨bs, 0, none⟩)] W fun e W' => (∃ v, e = .returned v) ∧ ((∃ xs, (UpTo xs ∧ xs.length = vals.length) ∧ J xs W') ∨ (∃ pre, UpTo pre ∧ Jx pre W')) := by
  refine callsIn_of_wp Tryz.func50 rfl trivial ?_ rfl
  simp only [Tryz.ntmps50, List.size_toArray, List.length_cons, List.length_nil, Nat.reduceAdd, Nat.reduceSub, Array.replicate_succ, Array.replicate_zero, List.push_toArray, List.append_toArray, List.nil_append, List.cons_append]
  gi_wp2
  gi_loopw [7] (fun i wr => ∃ (j : Nat) (pre : List (Lof vals.length)), j ≤ vals.length ∧ i = .int .i64 j ∧ UpTo pre ∧ pre.length = j ∧ J pre wr ∧ KeptG G W wr)
    (fun i _ => vals.length - (intOf i).toNat)
  case atStart => exact ⟨0, [], Nat.zero_le _, rfl, UpTo.nil _, rfl, h0, KeptG.refl _ _⟩
  case round =>
    obtain ⟨j, pre, hj, rfl, hup, hlen, hJs, hkp⟩ := hrel
    by_cases hlt : j < vals.length
    · obtain ⟨v, hv⟩ : ∃ v, vals[j]? = some v := ⟨_, List.getElem?_eq_getElem hlt⟩
      have hv2 : vals[j]'hlt = v := by
        have h9 := List.getElem?_eq_getElem hlt
        rw [hv] at h9
        exact (Option.some.inj h9).symm
      have hcv := hkp.cell (h4 j v hv) hg
      obtain ⟨fn, tmps, assign, body, hy, hR⟩ := hY pre ⟨j, hlt⟩ wr hJs (by omega)
      simp only [encV, hv2] at hy
      gi_wp2
      refine hR.mono ?_
      rintro e W3 (⟨rfl, hJ3, hk3⟩ | ⟨rfl, hJx3⟩)
      · gi_wp2
        go_roundw
        case rel => exact ⟨j + 1, pre ++ [⟨j, hlt⟩], by omega, by simp, UpTo.snoc.2 ⟨hup, hlen.symm⟩, by simp [hlen], hJ3, hkp.trans hk3⟩
        case measure => simp [intOf]; omega
      · gi_wp2
        refine bodyPost_ret (results_none rfl _ _ _) rfl ?_
        exact ⟨⟨_, rfl⟩, .inr ⟨pre ++ [⟨j, hlt⟩], UpTo.snoc.2 ⟨hup, hlen.symm⟩, hJx3⟩⟩
    · obtain rfl : j = vals.length := by omega
      gi_wp2
      go_end0
      exact ⟨⟨_, rfl⟩, .inl ⟨pre, ⟨hup, hlen⟩, hJs⟩⟩
/-- New levels as they came. -/
structure NRow (c : Cfg) (sts : List LS) (N : Nat) (pre : List (Lof N)) (vs : List Value) (ts : List Thing) : Prop where
  lv : vs.length = pre.length
  lt : ts.length = pre.length
  each : ∀ (j : Nat) (x : Lof N), pre[j]? = some x → ∃ st v Q, sts[x.1]? = some st ∧ vs[j]? = some v ∧ ts[j]? = some (elvT v Q c (x.1 : Int) st)
theorem NRow.nil (c : Cfg) (sts : List LS) (N : Nat) : NRow c sts N [] [] [] := ⟨rfl, rfl, fun j x h => by simp at h⟩
theorem NRow.snoc {c : Cfg} {sts : List LS} {N : Nat} {pre : List (Lof N)} {vs : List Value} {ts : List Thing} (h : NRow c sts N pre vs ts) (x : Lof N) (st : LS) (v : Value) (Q : Nat → Prop) (hs : sts[x.1]? = some st) : NRow c sts N (pre ++ [x]) (vs ++ [v]) (ts ++ [elvT v Q c (x.1 : Int) st]) := by
  refine ⟨by simp [h.lv], by simp [h.lt], fun j y hy => ?_⟩
  by_cases hj : j < pre.length
  · rw [List.getElem?_append_left hj] at hy
    rw [List.getElem?_append_left (by rw [h.lv]; exact hj), List.getElem?_append_left (by rw [h.lt]; exact hj)]
    exact h.each j y hy
  · rw [List.getElem?_append_right (by omega)] at hy
    rw [List.getElem?_append_right (by rw [h.lv]; omega), List.getElem?_append_right (by rw [h.lt]; omega), h.lv, h.lt]
    have hj2 : j - pre.length = 0 := by
      have := (List.getElem?_eq_some_iff.1 hy).1
      simp at this
      omega
    rw [hj2] at hy ⊢
    simp at hy
    subst hy
    exact ⟨st, v, Q, hs, rfl, rfl⟩
theorem NRow.row {c : Cfg} {sts : List LS} {N : Nat} {pre : List (Lof N)} {vs : List Value} {ts : List Thing} (h : NRow c sts N pre vs ts) (hup : UpTo pre) (hl : pre.length = sts.length) : LRow elvT c vs ts sts := by
  refine ⟨h.lv.trans hl, h.lt.trans hl, fun j st hj => ?_⟩
  have hj2 := (List.getElem?_eq_some_iff.1 hj).1
  obtain ⟨x, hx⟩ : ∃ x, pre[j]? = some x := ⟨_, List.getElem?_eq_getElem (by omega)⟩
  have hx2 : x.1 = j := by
    have h3 : (pre.map (fun x => x.1))[j]? = some x.1 := by rw [List.getElem?_map, hx]; rfl
    rw [hup, List.getElem?_range (by omega)] at h3
    injection h3 with h3
    exact h3.symm
  obtain ⟨st2, v, Q, e1, e2, e3⟩ := h.each j x hx
  rw [hx2, hj] at e1
  injection e1 with e1
  subst e1
  rw [hx2] at e3
  exact ⟨v, Q, e2, e3⟩
set_option maxRecDepth 100000 in
set_option maxHeartbeats 2000000 in
theorem cs_copy (p : Addr) (F : Nat → Prop) (c : Cfg) (sts : List LS) (w : World) (h : ST w p F c sts) :
    Calls Tryz.prog 10 #[.pointer (some p)] w fun e w' => ∃ (q : Addr) (Q : Nat → Prop), e = .returned (.pointer (some q)) ∧ ST w' q Q c sts ∧ (∀ k, Q k → w.heap.size ≤ k) ∧ Below w.heap.size w w' := by
  obtain ⟨hr, hc, hl, b, B0, hdr, vals, ts, rfl, hrow, hI, rfl⟩ := h
  have HH := Lib.hid (st_hold hrow hI)
  have HO := Lib.hid hc
  have HR := Lib.hid hr
  have HL := Lib.hid hl
  have HROW := Lib.hid hrow
  have hb1 := hr.1
  have hb2 := hr.2.1
  have LV := Lib.hid (hrow.lv.trans hl)
  obtain ⟨g, cap, rfl, hcap, hmx, hcs⟩ := own_cell (HH.out.i (t := ownT B0 57 hdr vals) (by simp)) (by have := LV.out; omega)
  have c0 := box_cell (HH.out.i (t := skB b c (.slice (some ⟨g, 0, none⟩) vals.length cap)) (by simp)) (i := 0) rfl
  have c1 := box_cell (HH.out.i (t := skB b c (.slice (some ⟨g, 0, none⟩) vals.length cap)) (by simp)) (i := 1) rfl
  have c2 := box_cell (HH.out.i (t := skB b c (.slice (some ⟨g, 0, none⟩) vals.length cap)) (by simp)) (i := 2) rfl
  have c3 := box_cell (HH.out.i (t := skB b c (.slice (some ⟨g, 0, none⟩) vals.length cap)) (by simp)) (i := 3) rfl
  have c4 := box_cell (HH.out.i (t := skB b c (.slice (some ⟨g, 0, none⟩) vals.length cap)) (by simp)) (i := 4) rfl
  have c5 := box_cell (HH.out.i (t := skB b c (.slice (some ⟨g, 0, none⟩) vals.length cap)) (by simp)) (i := 5) rfl
  have k5 := cell_up c5 (Lw.below_alloc (Lw.below_alloc (Below.refl _ w) (.cells #[.int .i64 c.bt, .int .i64 c.rw, .int .i64 c.wd, .int .i64 c.md, .int .u64 c.sd, .slice none 0 0] 64)) (.cells #[.pointer (some ⟨w.heap.size, 0, none⟩)] 28))
  clear hrow hI hr hc hl
  refine (callsIn_wide (n := 9)).1 ?_
  refine callsIn_of_wp_marks Tryz.func10 rfl trivial ?_ rfl
  simp only [Tryz.ntmps10, List.size_toArray, List.length_cons, List.length_nil, Nat.reduceAdd, Nat.reduceSub, Array.replicate_succ, Array.replicate_zero, List.push_toArray, List.append_toArray, List.nil_append, List.cons_append]
  gi_wp2_with (refine ⟨trivial, ?_⟩; gi_at_call 29; (refine (callsIn_wide.2 (values_any _ _ _ _)).mono ?_); rintro e w1 ⟨rfl, rfl⟩)
  have B1 : Below w.heap.size w (w.alloc (.cells #[.int .i64 c.bt, .int .i64 c.rw, .int .i64 c.wd, .int .i64 c.md, .int .u64 c.sd, .slice none 0 0] 64)) := Lw.below_alloc (Below.refl _ _) _
  have B2 : Below w.heap.size w ((w.alloc (.cells #[.int .i64 c.bt, .int .i64 c.rw, .int .i64 c.wd, .int .i64 c.md, .int .u64 c.sd, .slice none 0 0] 64)).alloc (.cells #[.pointer (some ⟨w.heap.size, 0, none⟩)] 28)) := Lw.below_alloc B1 _
  have B3 : Below w.heap.size w (((w.alloc (.cells #[.int .i64 c.bt, .int .i64 c.rw, .int .i64 c.wd, .int .i64 c.md, .int .u64 c.sd, .slice none 0 0] 64)).alloc (.cells #[.pointer (some ⟨w.heap.size, 0, none⟩)] 28)).alloc (.cells #[.slice (some ⟨g, 0, none⟩) vals.length cap] 62)) := Lw.below_alloc B2 _
  have N2 : ((w.alloc (.cells #[.int .i64 c.bt, .int .i64 c.rw, .int .i64 c.wd, .int .i64 c.md, .int .u64 c.sd, .slice none 0 0] 64)).alloc (.cells #[.pointer (some ⟨w.heap.size, 0, none⟩)] 28)).heap[w.heap.size + 1]? = some (.cells #[.pointer (some ⟨w.heap.size, 0, none⟩)] 28 (0, 0)) := by
    have := heap_alloc_new (w.alloc (.cells #[.int .i64 c.bt, .int .i64 c.rw, .int .i64 c.wd, .int .i64 c.md, .int .u64 c.sd, .slice none 0 0] 64)) (.cells #[.pointer (some ⟨w.heap.size, 0, none⟩)] 28)
    rw [World.size_alloc] at this
    exact this
  have N3 : (((w.alloc (.cells #[.int .i64 c.bt, .int .i64 c.rw, .int .i64 c.wd, .int .i64 c.md, .int .u64 c.sd, .slice none 0 0] 64)).alloc (.cells #[.pointer (some ⟨w.heap.size, 0, none⟩)] 28)).alloc (.cells #[.slice (some ⟨g, 0, none⟩) vals.length cap] 62)).heap[w.heap.size + 2]? = some (.cells #[.slice (some ⟨g, 0, none⟩) vals.length cap] 62 (0, 0)) := by
    have := heap_alloc_new ((w.alloc (.cells #[.int .i64 c.bt, .int .i64 c.rw, .int .i64 c.wd, .int .i64 c.md, .int .u64 c.sd, .slice none 0 0] 64)).alloc (.cells #[.pointer (some ⟨w.heap.size, 0, none⟩)] 28)) (.cells #[.slice (some ⟨g, 0, none⟩) vals.length cap] 62)
    rw [World.size_alloc, World.size_alloc] at this
    exact this
  have P1 := ((HoldC.start0 (Below.refl _ w)).push (ownT w.heap.size 57 (.slice none 0 0) []) (Below.refl _ _) (own_nil _ _ _) (fun k hk => own_nilF _ _ hk) (cel_own (own_nil _ _ _))).push (skB w.heap.size c (.slice none 0 0)) B1 (heap_alloc_new w _) (fun k hk => Nat.le_of_eq hk.symm) (cel_box (heap_alloc_new w _))
  have P2 := P1.push (boxT (w.heap.size + 1) 28 #[.pointer (some ⟨w.heap.size, 0, none⟩)]) (Lw.below_alloc (Below.refl _ _) _) N2 (fun k hk => Nat.le_of_eq (by simp; exact hk.symm)) (cel_box N2)
  have P3 := P2.push (boxT (w.heap.size + 2) 62 #[.slice (some ⟨g, 0, none⟩) vals.length cap]) (Lw.below_alloc (Below.refl _ _) _) N3 (fun k hk => Nat.le_of_eq (by simp; exact hk.symm)) (cel_box N3)
  clear P1 P2 c0 c1 c2 c3 c4 c5 k5
  have hgl : g < w.heap.size := by
    have h9 := LV.out
    obtain ⟨v, hv⟩ : ∃ v, vals[0]? = some v := ⟨_, List.getElem?_eq_getElem (by omega)⟩
    exact cell_lt (hcs 0 v hv)
  obtain ⟨W0, hW0⟩ : ∃ W0, ((w.alloc (.cells #[.int .i64 c.bt, .int .i64 c.rw, .int .i64 c.wd, .int .i64 c.md, .int .u64 c.sd, .slice none 0 0] 64)).alloc (.cells #[.pointer (some ⟨w.heap.size, 0, none⟩)] 28)).alloc (.cells #[.slice (some ⟨g, 0, none⟩) vals.length cap] 62) = W0 := ⟨_, rfl⟩
  have hsz : w.heap.size + 2 < W0.heap.size := by rw [← hW0]; simp
  rw [hW0] at B3 N3 P3 ⊢
  clear N2 B1 B2 hW0
  obtain ⟨j0, hj, hy0, hy1, hy2⟩ := info_parts lvs_info
  have HJ := Lib.hid hj
  clear hj
  have hws : w.heap.size ≤ W0.heap.size := by omega
  have HCS := Lib.hid hcs
  clear hcs
  refine wpIn_rangeFunc_ownG rfl (by omega) (gf := 50) (lb := #[.pointer (some ⟨w.heap.size + 2, 0, none⟩)]) (S := fun xs => UpTo xs ∧ xs.length = vals.length) (Sp := UpTo) (N := vals.length) (encs := encV vals) (w0 := W0) rfl trivial (enters_of Tryz.func50 (by kernel_rfl) rfl)
    (fun l J Jx W hW hJ hJx hY h0 => values_iter (9 - 1) (by omega) l (w.heap.size + 2) g cap (fun k => k = w.heap.size + 2 ∨ k = g) vals (by have h9 := LV.out; omega) (.inl rfl) (.inr rfl) J Jx W hY (hW.cell (p := ⟨w.heap.size + 2, 0, none⟩) hsz |>.trans (box_cell (b := w.heap.size + 2) (e := 62) (vs := #[.slice (some ⟨g, 0, none⟩) vals.length cap]) N3 rfl)) (fun j v hv => cell_up (HCS.out j v hv) (B3.trans (hW.mono (by omega)))) h0)
    (fun h k => KeptG.trans h k) (KeptG.put (fun k hk => by rcases hk with rfl | rfl <;> omega)) (Below.refl _ _) (fun _ => rfl)
    (fun pre W => ∃ hdr vs nts, HoldC (fun _ => False) w W (boxT (w.heap.size + 2) 62 #[.slice (some ⟨g, 0, none⟩) vals.length cap] :: boxT (w.heap.size + 1) 28 #[.pointer (some ⟨w.heap.size, 0, none⟩)] :: skB w.heap.size c hdr :: ownT w.heap.size 57 hdr vs :: nts) ∧ NRow c sts vals.length pre vs nts)
    (fun _ _ _ => False)
    (by
      rintro s A B row ⟨hdr, vs, nts, h, hp⟩ hg hr
      exact ⟨hdr, vs, nts, HoldC.own hws (fun (_ : Unit) => _) () A B row h hg hr, hp⟩)
    (fun _ _ _ _ _ hs _ _ => hs)
    ⟨_, [], [], P3, NRow.nil _ _ _⟩
    (fun x => { tmps := #[.pointer (some ⟨b, 0, none⟩), undef, .pointer none, .pointer (some ⟨w.heap.size + 1, 0, none⟩), vals[x.1]'x.2, .pointer (some ⟨b, 0, none⟩), .pointer (some ⟨b, 0, none⟩), .pointer (some ⟨b, 0, none⟩), .agg #[.int .i64 c.bt, .int .i64 c.rw, .int .i64 c.wd, .int .i64 c.md, .int .u64 c.sd], .agg #[.int .i64 c.bt, .int .i64 c.rw, .int .i64 c.wd, .int .i64 c.md, .int .u64 c.sd, .slice none 0 0], .pointer (some ⟨w.heap.size, 0, none⟩), .pointer (some ⟨b, 0, none⟩), .pointer (some ⟨b, 0, none⟩), .pointer (some ⟨b, 5, none⟩), .slice (some ⟨g, 0, none⟩) vals.length cap, .func (.func 50) #[] #[.pointer (some ⟨w.heap.size + 2, 0, none⟩)], vals[x.1]'x.2, undef, undef, undef, undef, undef, undef, undef, undef, undef, undef, undef, undef], defers := [] }) ?assign ?body ?done ?stop
  case assign =>
    intro l x W K hK
    simp only [encV]
    gi_wp2
    exact hK
  case body =>
    rintro l pre x W ⟨hdr, vs, nts, hh, hn⟩ hlen
    obtain ⟨st, v, Q, e1, e2, e3⟩ := HROW.out.at (j := x.1) (by have h9 := HROW.out.lv; have h8 := x.2; omega)
    have e4 : vals[x.1]'x.2 = v := by
      have h9 := List.getElem?_eq_getElem x.2
      rw [e2] at h9
      exact (Option.some.inj h9).symm
    have hE0 : ELV w v Q c (x.1 : Int) st := HH.out.i (t := elvT v Q c (x.1 : Int) st) (List.mem_cons_of_mem _ (List.mem_cons_of_mem _ (List.mem_of_getElem? e3)))
    have hWb : Below w.heap.size w W := hh.1.1.below
    have hE1 : ELV W.drew v Q c (x.1 : Int) st := hE0.keep (Kept.of_below (F := fun _ => False) (Below.drew hWb)) (fun _ _ h => h)
    rw [e4]
    have o1 := box_cell ((hh.up (Below.drew (Below.refl _ W))).i (t := boxT (w.heap.size + 1) 28 #[.pointer (some ⟨w.heap.size, 0, none⟩)]) (by simp)) (i := 0) rfl
    have x1 := box_cell ((hh.up (Below.drew (Below.refl _ W))).i (t := skB w.heap.size c hdr) (by simp)) (i := 5) rfl
    have o8 : ∀ {w7 : World} {V : Value} {zs : List Thing}, HoldC (fun _ => False) w w7 (boxT (w.heap.size + 2) 62 #[.slice (some ⟨g, 0, none⟩) vals.length cap] :: boxT (w.heap.size + 1) 28 #[.pointer (some ⟨w.heap.size, 0, none⟩)] :: skB w.heap.size c hdr :: zs) → (w7.setCell ⟨w.heap.size, 5, none⟩ V).cell? ⟨w.heap.size + 1, 0, none⟩ = some (.pointer (some ⟨w.heap.size, 0, none⟩)) := fun {w7 V zs} h => by
      have h2 := HoldC.store (fs := [boxT (w.heap.size + 2) 62 #[.slice (some ⟨g, 0, none⟩) vals.length cap], boxT (w.heap.size + 1) 28 #[.pointer (some ⟨w.heap.size, 0, none⟩)]]) h V
      exact box_cell (h2.i (t := boxT (w.heap.size + 1) 28 #[.pointer (some ⟨w.heap.size, 0, none⟩)]) (by simp)) (i := 0) rfl
    have fin : ∀ (ty : TypeId) (pv : Addr) (Q5 : Nat → Prop) (w5 : World) (g7 cap7 : Nat) (w7 : World), Below W.drew.heap.size W.drew w5 →
        HoldC (fun _ => False) w (w5.alloc (.cells #[.iface ty (.pointer (some pv))] 57)) (boxT (w.heap.size + 2) 62 #[.slice (some ⟨g, 0, none⟩) vals.length cap] :: boxT (w.heap.size + 1) 28 #[.pointer (some ⟨w.heap.size, 0, none⟩)] :: skB w.heap.size c hdr :: ownT w.heap.size 57 hdr vs :: (nts ++ [elvT (.iface ty (.pointer (some pv))) Q5 c (x.1 : Int) st])) →
        HoldC (fun _ => False) w w7 (boxT (w.heap.size + 2) 62 #[.slice (some ⟨g, 0, none⟩) vals.length cap] :: boxT (w.heap.size + 1) 28 #[.pointer (some ⟨w.heap.size, 0, none⟩)] :: skB w.heap.size c hdr :: ownT w.heap.size 57 (.slice (some ⟨g7, 0, none⟩) (vs.length + 1) cap7) (vs ++ [.iface ty (.pointer (some pv))]) :: (nts ++ [elvT (.iface ty (.pointer (some pv))) Q5 c (x.1 : Int) st])) →
        (w5.alloc (.cells #[.iface ty (.pointer (some pv))] 57)).grownBy w7 hdr.ownBlock →
        KeepsFrom W0.heap.size W (w7.setCell ⟨w.heap.size, 5, none⟩ (.slice (some ⟨g7, 0, none⟩) (vs.length + 1) cap7)) ∧ KeptG (fun k => k = w.heap.size + 2 ∨ k = g) W (w7.setCell ⟨w.heap.size, 5, none⟩ (.slice (some ⟨g7, 0, none⟩) (vs.length + 1) cap7)) ∧ ∃ hd2 vs2 ns2, HoldC (fun _ => False) w (w7.setCell ⟨w.heap.size, 5, none⟩ (.slice (some ⟨g7, 0, none⟩) (vs.length + 1) cap7)) (boxT (w.heap.size + 2) 62 #[.slice (some ⟨g, 0, none⟩) vals.length cap] :: boxT (w.heap.size + 1) 28 #[.pointer (some ⟨w.heap.size, 0, none⟩)] :: skB w.heap.size c hd2 :: ownT w.heap.size 57 hd2 vs2 :: ns2) ∧ NRow c sts vals.length (pre ++ [x]) vs2 ns2 := by
      intro ty pv Q5 w5 g7 cap7 w7 hb5 H6 H7 grow7
      have s6 := H6.i (t := ownT w.heap.size 57 hdr vs) (by simp)
      have k1 : KeepsOthers W w5 := (KeepsOthers.drew W).trans (others_of (F := fun _ => False) (Kept.of_below hb5) (fun _ h => h.elim))
      have k2 := KeepsOthers.alloc w5 (.cells #[.iface ty (.pointer (some pv))] 57)
      have k3 : KeepsOthers (w5.alloc (.cells #[.iface ty (.pointer (some pv))] 57)) w7 := KeepsOthers.of_grownBy grow7 (fun j o ej ho => by
        obtain ⟨o', h1, h2⟩ := cel_own s6 j ej
        rw [ho] at h1
        injection h1 with h1
        rw [h1]
        exact h2)
      have k4 := KeepsOthers.setCell w7 ⟨w.heap.size, 5, none⟩ (.slice (some ⟨g7, 0, none⟩) (vs.length + 1) cap7)
      have l0 : w.heap.size + 2 < W.heap.size := box_lt (hh.i (t := boxT (w.heap.size + 2) 62 #[.slice (some ⟨g, 0, none⟩) vals.length cap]) (by simp))
      have hG : ∀ {X : World}, W.heap.size ≤ X.heap.size → ∀ k, (k = w.heap.size + 2 ∨ k = g) → k < X.heap.size := fun {X} hX k hk => by rcases hk with rfl | rfl <;> omega
      have bd : Below W.heap.size W w5 := (Below.drew (Below.refl _ W)).trans hb5
      have g1 : KeptG (fun k => k = w.heap.size + 2 ∨ k = g) W w5 := KeptG.of_below (hG (Nat.le_refl _)) bd
      have g2 : KeptG (fun k => k = w.heap.size + 2 ∨ k = g) w5 (w5.alloc (.cells #[.iface ty (.pointer (some pv))] 57)) := KeptG.of_below (hG bd.size) (Lw.below_alloc (Below.refl _ w5) _)
      have g3 : KeptG (fun k => k = w.heap.size + 2 ∨ k = g) (w5.alloc (.cells #[.iface ty (.pointer (some pv))] 57)) w7 := by
        refine KeptG.of_kept (F := (ownT w.heap.size 57 hdr vs).F) (hG (by simp; have := bd.size; omega)) ((Kept.refl _ _).grown grow7 (fun q e => .inl e)) (fun k hk h5 => ?_)
        rcases hk with rfl | rfl
        · exact H6.1.2.2.1 (ownT w.heap.size 57 hdr vs) (by simp) _ rfl h5
        · rcases (H6.1.2.1 (ownT w.heap.size 57 hdr vs) (by simp)).2 _ h5 with h6 | h6
          · exact h6
          · omega
      have g4 : KeptG (fun k => k = w.heap.size + 2 ∨ k = g) w7 (w7.setCell ⟨w.heap.size, 5, none⟩ (.slice (some ⟨g7, 0, none⟩) (vs.length + 1) cap7)) := by
        refine KeptG.of_kept (F := fun k => k = w.heap.size) (hG (by have := bd.size; have := k2.size; have := k3.size; omega)) (Kept.set (F := fun k => k = w.heap.size) (Kept.refl _ _) (.inl rfl) 5 _) (fun k hk h5 => ?_)
        rcases hk with rfl | rfl <;> omega
      refine ⟨(((k1.trans k2).trans k3).trans k4).from _, ((g1.trans g2).trans g3).trans g4, .slice (some ⟨g7, 0, none⟩) (vs.length + 1) cap7, vs ++ [.iface ty (.pointer (some pv))], nts ++ [elvT (.iface ty (.pointer (some pv))) Q5 c (x.1 : Int) st], ?_, hn.snoc x st _ Q5 e1⟩
      exact HoldC.store (fs := [boxT (w.heap.size + 2) 62 #[.slice (some ⟨g, 0, none⟩) vals.length cap], boxT (w.heap.size + 1) 28 #[.pointer (some ⟨w.heap.size, 0, none⟩)]]) H7 _
    gi_wp2
    refine region_round (S := (fun w' => w'.cell? ⟨w.heap.size + 1, 0, none⟩ = some (.pointer (some ⟨w.heap.size, 0, none⟩)))) (by kernel_rfl) (by kernel_rfl) (fun ⟨_, _, h⟩ => h) o1 (fun hHeld => ?_)
    refine wpAnyH_take (i := 0) (v := ?_) rfl (by kernel_rfl) (by kernel_rfl) (by kernel_rfl) (fun _ _ _ h => h) (Or.inl ⟨by rfl, ?_⟩) hHeld ?_
    rotate_left
    · intro w hSw
      (try dsimp only at hSw)
      go_simp
      (try with_reducible rfl)
    (try simp only [List.getElem_toArray, List.getElem_cons_zero, List.getElem_cons_succ, Act.put, List.setIfInBounds_toArray, List.set_cons_zero, List.set_cons_succ])
    refine wpAnyH_take (i := 1) (v := ?_) rfl (by kernel_rfl) (by kernel_rfl) (by kernel_rfl) (fun _ _ _ h => h) (Or.inl ⟨by rfl, ?_⟩) hHeld ?_
    rotate_left
    · intro w hSw
      (try dsimp only at hSw)
      go_simp
      (try with_reducible rfl)
    (try simp only [List.getElem_toArray, List.getElem_cons_zero, List.getElem_cons_succ, Act.put, List.setIfInBounds_toArray, List.set_cons_zero, List.set_cons_succ])
    refine wpAnyH_take (i := 2) (v := ?_) rfl (by kernel_rfl) (by kernel_rfl) (by kernel_rfl) (fun _ _ _ h => h) (Or.inl ⟨by rfl, ?_⟩) hHeld ?_
    rotate_left
    · intro w hSw
      (try dsimp only at hSw)
      go_simp
      (try with_reducible rfl)
    (try simp only [List.getElem_toArray, List.getElem_cons_zero, List.getElem_cons_succ, Act.put, List.setIfInBounds_toArray, List.set_cons_zero, List.set_cons_succ])
    refine wpAnyH_take (i := 3) (v := ?_) rfl (by kernel_rfl) (by kernel_rfl) (by kernel_rfl) (fun _ _ _ h => h) (Or.inl ⟨by rfl, ?_⟩) hHeld ?_
    rotate_left
    · intro w hSw
      (try dsimp only at hSw)
      go_simp
      (try with_reducible rfl)
    (try simp only [List.getElem_toArray, List.getElem_cons_zero, List.getElem_cons_succ, Act.put, List.setIfInBounds_toArray, List.set_cons_zero, List.set_cons_succ])
    refine wpAnyH_take (i := 5) (v := ?_) rfl (by kernel_rfl) (by kernel_rfl) (by kernel_rfl) (fun _ _ _ h => h) (Or.inl ⟨by rfl, ?_⟩) hHeld ?_
    rotate_left
    · intro w hSw
      (try dsimp only at hSw)
      go_simp
      (try with_reducible rfl)
    (try simp only [List.getElem_toArray, List.getElem_cons_zero, List.getElem_cons_succ, Act.put, List.setIfInBounds_toArray, List.set_cons_zero, List.set_cons_succ])
    refine wpAnyH_ready (rs := [4, 6]) (by kernel_rfl) (by simp) ?_
    refine AllReadyH.cons rfl (fun K hK => ?_) (AllReadyH.cons rfl (fun K hK => ?_) AllReadyH.nil)
    · go_simp
      refine hK.out _ _ hHeld (fun hHeld => ?_)
      clear hK K
      (try simp only [List.getElem_toArray, List.getElem_cons_zero, List.getElem_cons_succ, Act.put, List.setIfInBounds_toArray, List.set_cons_zero, List.set_cons_succ])
      refine wpAnyH_ready (rs := [6]) (by kernel_rfl) (by simp) ?_
      refine AllReadyH.cons rfl (fun K hK => ?_) AllReadyH.nil
      go_simp
      (go_at_call 30; refine (ev_copy v Q c (x.1 : Int) st _ hE1).mono ?_; rintro e w5 ⟨u, Q5, rfl, hE5, hQ5, hb5⟩; obtain ⟨ty, pv, rfl⟩ := elv_form hE5; have HV5 := Lib.hid ((hh.up (Below.drew (Below.refl _ W))).snoc (elvT (.iface ty (.pointer (some pv))) Q5 c (x.1 : Int) st) hb5 hE5 hQ5 (cel_elv hE5)); have o5 := box_cell (HV5.out.i (t := boxT (w.heap.size + 1) 28 #[.pointer (some ⟨w.heap.size, 0, none⟩)]) (by simp)) (i := 0) rfl; have x5 := box_cell (HV5.out.i (t := skB w.heap.size c hdr) (by simp)) (i := 5) rfl; have HV6 := Lib.hid (HV5.out.up (Lw.below_alloc (Below.refl _ w5) (.cells #[(.iface ty (.pointer (some pv)))] 57))); have o6 := box_cell (HV6.out.i (t := boxT (w.heap.size + 1) 28 #[.pointer (some ⟨w.heap.size, 0, none⟩)]) (by simp)) (i := 0) rfl; have x6 := box_cell (HV6.out.i (t := skB w.heap.size c hdr) (by simp)) (i := 5) rfl)
      refine hK.out _ _ o5 (fun hHeld => ?_)
      clear hK K
      (try simp only [List.getElem_toArray, List.getElem_cons_zero, List.getElem_cons_succ, Act.put, List.setIfInBounds_toArray, List.set_cons_zero, List.set_cons_succ])
      refine wpAnyH_ready (rs := [7]) (by kernel_rfl) (by simp) ?_
      refine AllReadyH.cons rfl (fun K hK => ?_) AllReadyH.nil
      go_simp
      refine hK.out _ _ o6 (fun hHeld => ?_)
      clear hK K
      (try simp only [List.getElem_toArray, List.getElem_cons_zero, List.getElem_cons_succ, Act.put, List.setIfInBounds_toArray, List.set_cons_zero, List.set_cons_succ])
      refine wpAnyH_ready (rs := [8]) (by kernel_rfl) (by simp) ?_
      refine AllReadyH.cons rfl (fun K hK => ?_) AllReadyH.nil
      (refine appat_step rfl _ _ 62 rfl w.heap.size 57 j0 .nilIface 16 lvs_u HJ.out hy0 hy1 hy2 rfl hdr vs.length vs rfl (HV6.out.i (t := ownT w.heap.size 57 hdr vs) (by simp)) (.iface ty (.pointer (some pv))) w5.heap.size rfl (cell_one_new _ _ _) rfl (by have h9 := hn.lv; have h8 := LV.out; unfold maxLen; omega) (by have h9 := hn.lv; have h8 := LV.out; omega) (by have h9 := HV6.out.1.1.size; exact h9) ?_; intro g7 cap7 w7 own7 grow7 hat7; have HV7 := Lib.hid (HoldC.app (fs := [boxT (w.heap.size + 2) 62 #[.slice (some ⟨g, 0, none⟩) vals.length cap], boxT (w.heap.size + 1) 28 #[.pointer (some ⟨w.heap.size, 0, none⟩)], skB w.heap.size c hdr]) HV6.out own7 grow7 hat7); have o7 := box_cell (HV7.out.i (t := boxT (w.heap.size + 1) 28 #[.pointer (some ⟨w.heap.size, 0, none⟩)]) (by simp)) (i := 0) rfl; have x7 := box_cell (HV7.out.i (t := skB w.heap.size c hdr) (by simp)) (i := 5) rfl; have z7 : w7.frozen? ⟨w.heap.size, 5, none⟩ = false := frozen_of_row w7 w.heap.size 5 _ _ (HV7.out.i (t := skB w.heap.size c hdr) (by simp)))
      refine hK.out _ _ o7 (fun hHeld => ?_)
      clear hK K
      (try simp only [List.getElem_toArray, List.getElem_cons_zero, List.getElem_cons_succ, Act.put, List.setIfInBounds_toArray, List.set_cons_zero, List.set_cons_succ])
      refine wpAnyH_take (i := 9) (v := ?_) rfl (by kernel_rfl) (by kernel_rfl) (by kernel_rfl) (fun _ _ _ h => h) (Or.inl ⟨by rfl, ?_⟩) hHeld ?_
      rotate_left
      · intro w hSw
        (try dsimp only at hSw)
        go_simp
        (try with_reducible rfl)
      (try simp only [List.getElem_toArray, List.getElem_cons_zero, List.getElem_cons_succ, Act.put, List.setIfInBounds_toArray, List.set_cons_zero, List.set_cons_succ])
      refine wpAnyH_take (i := 10) (v := ?_) rfl (by kernel_rfl) (by kernel_rfl) (by kernel_rfl) (fun _ _ _ h => h) (Or.inl ⟨by rfl, ?_⟩) hHeld ?_
      rotate_left
      · intro w hSw
        (try dsimp only at hSw)
        go_simp
        (try with_reducible rfl)
      (try simp only [List.getElem_toArray, List.getElem_cons_zero, List.getElem_cons_succ, Act.put, List.setIfInBounds_toArray, List.set_cons_zero, List.set_cons_succ])
      refine wpAnyH_ready (rs := [11]) (by kernel_rfl) (by simp) ?_
      refine AllReadyH.cons rfl (fun K hK => ?_) AllReadyH.nil
      go_simp
      refine hK.out _ _ (o8 HV7.out) (fun hHeld => ?_)
      clear hK K
      (try simp only [List.getElem_toArray, List.getElem_cons_zero, List.getElem_cons_succ, Act.put, List.setIfInBounds_toArray, List.set_cons_zero, List.set_cons_succ])
      refine wpAnyH_done (by kernel_rfl) ?_ _
      gi_wp2
      have fin9 := fin ty pv Q5 w5 g7 cap7 w7 hb5 HV6.out HV7.out grow7; (exact ⟨fin9.1, fin9.2.1, fin9.2.2⟩)
    · go_simp
      (go_at_call 30; refine (ev_copy v Q c (x.1 : Int) st _ hE1).mono ?_; rintro e w5 ⟨u, Q5, rfl, hE5, hQ5, hb5⟩; obtain ⟨ty, pv, rfl⟩ := elv_form hE5; have HV5 := Lib.hid ((hh.up (Below.drew (Below.refl _ W))).snoc (elvT (.iface ty (.pointer (some pv))) Q5 c (x.1 : Int) st) hb5 hE5 hQ5 (cel_elv hE5)); have o5 := box_cell (HV5.out.i (t := boxT (w.heap.size + 1) 28 #[.pointer (some ⟨w.heap.size, 0, none⟩)]) (by simp)) (i := 0) rfl; have x5 := box_cell (HV5.out.i (t := skB w.heap.size c hdr) (by simp)) (i := 5) rfl; have HV6 := Lib.hid (HV5.out.up (Lw.below_alloc (Below.refl _ w5) (.cells #[(.iface ty (.pointer (some pv)))] 57))); have o6 := box_cell (HV6.out.i (t := boxT (w.heap.size + 1) 28 #[.pointer (some ⟨w.heap.size, 0, none⟩)]) (by simp)) (i := 0) rfl; have x6 := box_cell (HV6.out.i (t := skB w.heap.size c hdr) (by simp)) (i := 5) rfl)
      refine hK.out _ _ o5 (fun hHeld => ?_)
      clear hK K
      (try simp only [List.getElem_toArray, List.getElem_cons_zero, List.getElem_cons_succ, Act.put, List.setIfInBounds_toArray, List.set_cons_zero, List.set_cons_succ])
      refine wpAnyH_ready (rs := [4, 7]) (by kernel_rfl) (by simp) ?_
      refine AllReadyH.cons rfl (fun K hK => ?_) (AllReadyH.cons rfl (fun K hK => ?_) AllReadyH.nil)
      · go_simp
        refine hK.out _ _ o5 (fun hHeld => ?_)
        clear hK K
        (try simp only [List.getElem_toArray, List.getElem_cons_zero, List.getElem_cons_succ, Act.put, List.setIfInBounds_toArray, List.set_cons_zero, List.set_cons_succ])
        refine wpAnyH_ready (rs := [7]) (by kernel_rfl) (by simp) ?_
        refine AllReadyH.cons rfl (fun K hK => ?_) AllReadyH.nil
        go_simp
        refine hK.out _ _ o6 (fun hHeld => ?_)
        clear hK K
        (try simp only [List.getElem_toArray, List.getElem_cons_zero, List.getElem_cons_succ, Act.put, List.setIfInBounds_toArray, List.set_cons_zero, List.set_cons_succ])
        refine wpAnyH_ready (rs := [8]) (by kernel_rfl) (by simp) ?_
        refine AllReadyH.cons rfl (fun K hK => ?_) AllReadyH.nil
        (refine appat_step rfl _ _ 62 rfl w.heap.size 57 j0 .nilIface 16 lvs_u HJ.out hy0 hy1 hy2 rfl hdr vs.length vs rfl (HV6.out.i (t := ownT w.heap.size 57 hdr vs) (by simp)) (.iface ty (.pointer (some pv))) w5.heap.size rfl (cell_one_new _ _ _) rfl (by have h9 := hn.lv; have h8 := LV.out; unfold maxLen; omega) (by have h9 := hn.lv; have h8 := LV.out; omega) (by have h9 := HV6.out.1.1.size; exact h9) ?_; intro g7 cap7 w7 own7 grow7 hat7; have HV7 := Lib.hid (HoldC.app (fs := [boxT (w.heap.size + 2) 62 #[.slice (some ⟨g, 0, none⟩) vals.length cap], boxT (w.heap.size + 1) 28 #[.pointer (some ⟨w.heap.size, 0, none⟩)], skB w.heap.size c hdr]) HV6.out own7 grow7 hat7); have o7 := box_cell (HV7.out.i (t := boxT (w.heap.size + 1) 28 #[.pointer (some ⟨w.heap.size, 0, none⟩)]) (by simp)) (i := 0) rfl; have x7 := box_cell (HV7.out.i (t := skB w.heap.size c hdr) (by simp)) (i := 5) rfl; have z7 : w7.frozen? ⟨w.heap.size, 5, none⟩ = false := frozen_of_row w7 w.heap.size 5 _ _ (HV7.out.i (t := skB w.heap.size c hdr) (by simp)))
        refine hK.out _ _ o7 (fun hHeld => ?_)
        clear hK K
        (try simp only [List.getElem_toArray, List.getElem_cons_zero, List.getElem_cons_succ, Act.put, List.setIfInBounds_toArray, List.set_cons_zero, List.set_cons_succ])
        refine wpAnyH_take (i := 9) (v := ?_) rfl (by kernel_rfl) (by kernel_rfl) (by kernel_rfl) (fun _ _ _ h => h) (Or.inl ⟨by rfl, ?_⟩) hHeld ?_
        rotate_left
        · intro w hSw
          (try dsimp only at hSw)
          go_simp
          (try with_reducible rfl)
        (try simp only [List.getElem_toArray, List.getElem_cons_zero, List.getElem_cons_succ, Act.put, List.setIfInBounds_toArray, List.set_cons_zero, List.set_cons_succ])
        refine wpAnyH_take (i := 10) (v := ?_) rfl (by kernel_rfl) (by kernel_rfl) (by kernel_rfl) (fun _ _ _ h => h) (Or.inl ⟨by rfl, ?_⟩) hHeld ?_
        rotate_left
        · intro w hSw
          (try dsimp only at hSw)
          go_simp
          (try with_reducible rfl)
        (try simp only [List.getElem_toArray, List.getElem_cons_zero, List.getElem_cons_succ, Act.put, List.setIfInBounds_toArray, List.set_cons_zero, List.set_cons_succ])
        refine wpAnyH_ready (rs := [11]) (by kernel_rfl) (by simp) ?_
        refine AllReadyH.cons rfl (fun K hK => ?_) AllReadyH.nil
        go_simp
        refine hK.out _ _ (o8 HV7.out) (fun hHeld => ?_)
        clear hK K
        (try simp only [List.getElem_toArray, List.getElem_cons_zero, List.getElem_cons_succ, Act.put, List.setIfInBounds_toArray, List.set_cons_zero, List.set_cons_succ])
        refine wpAnyH_done (by kernel_rfl) ?_ _
        gi_wp2
        have fin9 := fin ty pv Q5 w5 g7 cap7 w7 hb5 HV6.out HV7.out grow7; (exact ⟨fin9.1, fin9.2.1, fin9.2.2⟩)
      · go_simp
        refine hK.out _ _ o6 (fun hHeld => ?_)
        clear hK K
        (try simp only [List.getElem_toArray, List.getElem_cons_zero, List.getElem_cons_succ, Act.put, List.setIfInBounds_toArray, List.set_cons_zero, List.set_cons_succ])
        refine wpAnyH_ready (rs := [4]) (by kernel_rfl) (by simp) ?_
        refine AllReadyH.cons rfl (fun K hK => ?_) AllReadyH.nil
        go_simp
        refine hK.out _ _ o6 (fun hHeld => ?_)
        clear hK K
        (try simp only [List.getElem_toArray, List.getElem_cons_zero, List.getElem_cons_succ, Act.put, List.setIfInBounds_toArray, List.set_cons_zero, List.set_cons_succ])
        refine wpAnyH_ready (rs := [8]) (by kernel_rfl) (by simp) ?_
        refine AllReadyH.cons rfl (fun K hK => ?_) AllReadyH.nil
        (refine appat_step rfl _ _ 62 rfl w.heap.size 57 j0 .nilIface 16 lvs_u HJ.out hy0 hy1 hy2 rfl hdr vs.length vs rfl (HV6.out.i (t := ownT w.heap.size 57 hdr vs) (by simp)) (.iface ty (.pointer (some pv))) w5.heap.size rfl (cell_one_new _ _ _) rfl (by have h9 := hn.lv; have h8 := LV.out; unfold maxLen; omega) (by have h9 := hn.lv; have h8 := LV.out; omega) (by have h9 := HV6.out.1.1.size; exact h9) ?_; intro g7 cap7 w7 own7 grow7 hat7; have HV7 := Lib.hid (HoldC.app (fs := [boxT (w.heap.size + 2) 62 #[.slice (some ⟨g, 0, none⟩) vals.length cap], boxT (w.heap.size + 1) 28 #[.pointer (some ⟨w.heap.size, 0, none⟩)], skB w.heap.size c hdr]) HV6.out own7 grow7 hat7); have o7 := box_cell (HV7.out.i (t := boxT (w.heap.size + 1) 28 #[.pointer (some ⟨w.heap.size, 0, none⟩)]) (by simp)) (i := 0) rfl; have x7 := box_cell (HV7.out.i (t := skB w.heap.size c hdr) (by simp)) (i := 5) rfl; have z7 : w7.frozen? ⟨w.heap.size, 5, none⟩ = false := frozen_of_row w7 w.heap.size 5 _ _ (HV7.out.i (t := skB w.heap.size c hdr) (by simp)))
        refine hK.out _ _ o7 (fun hHeld => ?_)
        clear hK K
        (try simp only [List.getElem_toArray, List.getElem_cons_zero, List.getElem_cons_succ, Act.put, List.setIfInBounds_toArray, List.set_cons_zero, List.set_cons_succ])
        refine wpAnyH_take (i := 9) (v := ?_) rfl (by kernel_rfl) (by kernel_rfl) (by kernel_rfl) (fun _ _ _ h => h) (Or.inl ⟨by rfl, ?_⟩) hHeld ?_
        rotate_left
        · intro w hSw
          (try dsimp only at hSw)
          go_simp
          (try with_reducible rfl)
        (try simp only [List.getElem_toArray, List.getElem_cons_zero, List.getElem_cons_succ, Act.put, List.setIfInBounds_toArray, List.set_cons_zero, List.set_cons_succ])
        refine wpAnyH_take (i := 10) (v := ?_) rfl (by kernel_rfl) (by kernel_rfl) (by kernel_rfl) (fun _ _ _ h => h) (Or.inl ⟨by rfl, ?_⟩) hHeld ?_
        rotate_left
        · intro w hSw
          (try dsimp only at hSw)
          go_simp
          (try with_reducible rfl)
        (try simp only [List.getElem_toArray, List.getElem_cons_zero, List.getElem_cons_succ, Act.put, List.setIfInBounds_toArray, List.set_cons_zero, List.set_cons_succ])
        refine wpAnyH_ready (rs := [11]) (by kernel_rfl) (by simp) ?_
        refine AllReadyH.cons rfl (fun K hK => ?_) AllReadyH.nil
        go_simp
        refine hK.out _ _ (o8 HV7.out) (fun hHeld => ?_)
        clear hK K
        (try simp only [List.getElem_toArray, List.getElem_cons_zero, List.getElem_cons_succ, Act.put, List.setIfInBounds_toArray, List.set_cons_zero, List.set_cons_succ])
        refine wpAnyH_done (by kernel_rfl) ?_ _
        gi_wp2
        have fin9 := fin ty pv Q5 w5 g7 cap7 w7 hb5 HV6.out HV7.out grow7; (exact ⟨fin9.1, fin9.2.1, fin9.2.2⟩)
  case done =>
    rintro D ys W hD ⟨hup, hyl⟩ ⟨hdr, vs, nts, hh, hn⟩ hK
    have o1 := box_cell (hh.i (t := boxT (w.heap.size + 1) 28 #[.pointer (some ⟨w.heap.size, 0, none⟩)]) (by simp)) (i := 0) rfl
    gi_wp2
    refine ⟨by simp, .inl ⟨_, _, rfl, run_takeDeferred hK, ?_⟩⟩
    have hs2 := HoldC.own (B := W0.heap.size) hws (fun (_ : Unit) => _) () _ _ _ hh (grownBy_putObj' _ D (.deferred none)) (fun r e => by cases e; exact ⟨hD, _, hK, rfl⟩)
    have hlen : ys.length = sts.length := by rw [hyl]; exact HROW.out.lv
    obtain ⟨s1, s2, s3⟩ := st_of HR.out HO.out HL.out (hn.row hup hlen) (hs2.sub (.cons _ (.cons _ (List.Sublist.refl _))))
    exact ⟨_, results_tmp rfl _ _ _, _, _, rfl, s1, fun k hk => (s3 k hk).elim (fun h => h.elim) id, s2.below⟩
  case stop =>
    rintro D j pre W _ _ h _
    exact h.elim
end Go.Proofs.YtccabgeeglhagaaGreat.Stk
/- The code's stack: its Update; with New, Copy, and what it tells, all contracts of its calls. Printed by wip/gen/stk14.py. -/
namespace Go.Proofs.YtccabgeeglhagaaGreat.Stk
open Go Go.RowKit Lw Grd Lin Con Shp Sk Exa Lev Go.Shelf
set_option linter.unusedVariables false
set_option linter.unusedSimpArgs false
theorem cs_upd (p : Addr) (F : Nat → Prop) (c : Cfg) (sts : List LS) (k d : Int) (w : World) (h : ST w p F c sts) (k0 : 0 ≤ k) (k1 : k ≤ 18446744073709551615) (d0 : -9223372036854775808 ≤ d) (d1 : d ≤ 9223372036854775807) :
    Calls Tryz.prog 16 #[.pointer (some p), .int .u64 k, .int .i64 d] w fun e w' => e = .returned (.int .i64 (sucode c sts k d)) ∧ ∃ F', ST w' p F' c (sures c sts k d) ∧ Kept F w w' ∧ (∀ q, F' q → F q ∨ w.heap.size ≤ q) := by
  have HS := Lib.hid h
  obtain ⟨hr, hc, hl, b, B0, hdr, vals, ts, rfl, hrow, hI, rfl⟩ := h
  have HH := Lib.hid (st_hold hrow hI)
  have HO := Lib.hid hc
  have HR := Lib.hid hr
  have HL := Lib.hid hl
  have HROW := Lib.hid hrow
  have K0 := Lib.hid k0
  have K1 := Lib.hid k1
  have D0 := Lib.hid d0
  have D1 := Lib.hid d1
  have HB := Lib.hid (HH.out.push (boxT w.heap.size 2 #[.int .i64 d]) (Lw.below_alloc (Below.refl _ _) _) (heap_alloc_new w _) (fun k hk => Nat.le_of_eq hk.symm) (cel_box (heap_alloc_new w _)))
  have c0 := box_cell (HB.out.i (t := skB b c hdr) (by simp)) (i := 0) rfl
  have c1 := box_cell (HB.out.i (t := skB b c hdr) (by simp)) (i := 1) rfl
  have c2 := box_cell (HB.out.i (t := skB b c hdr) (by simp)) (i := 2) rfl
  have c3 := box_cell (HB.out.i (t := skB b c hdr) (by simp)) (i := 3) rfl
  have c4 := box_cell (HB.out.i (t := skB b c hdr) (by simp)) (i := 4) rfl
  by_cases hk : keys c 0 ≤ k
  · have e1 : sucode c sts k d = 2 := if_pos hk
    have e2 : sures c sts k d = sts := by unfold sures; rw [e1]; exact if_neg (by decide)
    rw [e1, e2]
    clear e1 e2 hI hrow hl hr hc k0 k1 d0 d1
    go_enter Tryz.func16, Tryz.ntmps16
    go_wp2_with (go_at_call 33; (with_reducible refine (keys_any c 0 _ HO.out (by omega) (by omega)).mono ?_); rintro e w1 ⟨rfl, hb⟩)
    go_ret
    have hb3 : Below w.heap.size w w1 := (Lw.below_alloc (Below.refl _ w) (.cells #[.int .i64 d] 2)).trans (hb.mono (by simp))
    exact ⟨rfl, _, HS.out.up hb3, Kept.of_below hb3, fun q hq => .inl hq⟩
  · have hk2 : k < keys c 0 := by omega
    have HK := Lib.hid hk2
    have hm0 : ¬ (c.md = 2 ∧ d < 0) ∨ ers c k d 0 sts = 3 := by
      by_cases hm : c.md = 2 ∧ d < 0
      · obtain ⟨st, v, Q, e1, e2, e3⟩ := hrow.at (j := 0) (by omega)
        exact .inr (ers_mode hr k0 hk2 hm e1 (show ELV w v Q c ((0 : Nat) : Int) st from HH.out.i (t := elvT v Q c ((0 : Nat) : Int) st) (List.mem_cons_of_mem _ (List.mem_cons_of_mem _ (List.mem_of_getElem? e3)))))
      · exact .inl hm
    have e1 : sucode c sts k d = ers c k d 0 sts := by
      unfold sucode
      rw [if_neg hk]
      by_cases hm : c.md = 2 ∧ d < 0
      · rw [if_pos hm]
        exact (hm0.resolve_left (fun g => g hm)).symm
      · rw [if_neg hm]
    clear hm0
    by_cases hz : ers c k d 0 sts = 0
    · have e2 : sures c sts k d = rss c k d 0 sts := by unfold sures; rw [e1, if_pos hz]
      rw [e1, e2, hz]
      have HZ := Lib.hid hz
      clear e1 e2 hI hrow hl hr hc k0 k1 d0 d1 hz hk2
      go_enter Tryz.func16, Tryz.ntmps16
      go_wp2_with (first
        | (go_at_call 33; (with_reducible refine (keys_any c 0 _ HO.out (by omega) (by omega)).mono ?_); rintro e w1 ⟨rfl, hb⟩; have HV1 := Lib.hid (HB.out.up hb); clear hb)
        | (go_at_call 35; (with_reducible refine (sabove_any ⟨b, 0, none⟩ k _).mono ?_); rintro e w2 ⟨rfl, rfl⟩)
        | (go_at_call 34; (with_reducible refine (chk_first c HR.out HO.out k d K0.out K1.out HK.out D0.out D1.out sts HL.out w.heap.size b B0 hdr vals ts HROW.out _ _ _ HV1.out).mono ?_); rintro e w3 ⟨rfl, hv3⟩; have HV3 := Lib.hid hv3; clear hv3; rw [HZ.out])
        | (go_at_call 34; (with_reducible refine (upd_first c HR.out HO.out k d K0.out K1.out HK.out D0.out D1.out sts HL.out HZ.out w.heap.size b B0 hdr vals ts HROW.out _ _ _ HV3.out).mono ?_); rintro e w4 ⟨rfl, ts4, hrow4, hv4⟩; have HV4 := Lib.hid hv4; have HR4 := Lib.hid hrow4; clear hv4 hrow4))
      go_ret
      obtain ⟨s1, s2, s3⟩ := st_of HR.out HO.out (by rw [rss_len]; exact HL.out) HR4.out HV4.out.drop
      exact ⟨rfl, _, s1, s2, s3⟩
    · have e2 : sures c sts k d = sts := by unfold sures; rw [e1]; exact if_neg hz
      rw [e1, e2]
      obtain ⟨E, hE⟩ : ∃ E, ers c k d 0 sts = E := ⟨_, rfl⟩
      have HE := Lib.hid hE
      rw [hE] at hz ⊢
      clear e1 e2 hI hrow hl hr hc k0 k1 d0 d1 hE hk2
      go_enter Tryz.func16, Tryz.ntmps16
      go_wp2_with (first
        | (go_at_call 33; (with_reducible refine (keys_any c 0 _ HO.out (by omega) (by omega)).mono ?_); rintro e w1 ⟨rfl, hb⟩; have HV1 := Lib.hid (HB.out.up hb); clear hb)
        | (go_at_call 35; (with_reducible refine (sabove_any ⟨b, 0, none⟩ k _).mono ?_); rintro e w2 ⟨rfl, rfl⟩)
        | (go_at_call 34; (with_reducible refine (chk_first c HR.out HO.out k d K0.out K1.out HK.out D0.out D1.out sts HL.out w.heap.size b B0 hdr vals ts HROW.out _ _ _ HV1.out).mono ?_); rintro e w3 ⟨rfl, hv3⟩; have HV3 := Lib.hid hv3; clear hv3; rw [HE.out]))
      go_ret
      obtain ⟨s1, s2, s3⟩ := st_of HR.out HO.out HL.out HROW.out HV3.out.drop
      exact ⟨rfl, _, s1, s2, s3⟩
end Go.Proofs.YtccabgeeglhagaaGreat.Stk
/- fed of layer 15's laws. Printed by wip/gen/stk.py. -/
namespace Go.Proofs.YtccabgeeglhagaaGreat.Stk
open Go Go.RowKit Lw Grd Lin Con Shp Sk Exa Lev
set_option linter.unusedVariables false
set_option linter.unusedSimpArgs false
theorem box6 {w : World} {b : Nat} {e : TypeId} {v0 v1 v2 v3 v4 v5 : Value} (h : (boxT b e #[v0, v1, v2, v3, v4, v5]).I w) : w.cell? ⟨b, 0, none⟩ = some v0 ∧ w.cell? ⟨b, 1, none⟩ = some v1 ∧ w.cell? ⟨b, 2, none⟩ = some v2 ∧ w.cell? ⟨b, 3, none⟩ = some v3 ∧ w.cell? ⟨b, 4, none⟩ = some v4 ∧ w.cell? ⟨b, 5, none⟩ = some v5 :=
  ⟨box_cell h rfl, box_cell h rfl, box_cell h rfl, box_cell h rfl, box_cell h rfl, box_cell h rfl⟩
end Go.Proofs.YtccabgeeglhagaaGreat.Stk
