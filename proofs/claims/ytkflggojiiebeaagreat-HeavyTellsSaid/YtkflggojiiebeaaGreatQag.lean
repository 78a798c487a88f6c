/- Texts that statements lean on, put together: StkUpd, StkApp, StkGet, QntHalf, StkNew, StkCpy, StkCode, HvyMuch, HvyHalf, HvyHeavy, HvyMap, HvyGK. -/
import Derived.Test.YtkflggojiiebeaaGreatQaa
import Derived.Test.YtkflggojiiebeaaGreatQab
import Derived.Test.YtkflggojiiebeaaGreatQac
import Derived.Test.YtkflggojiiebeaaGreatQad
import Derived.Test.YtkflggojiiebeaaGreatQae
import Derived.Test.YtkflggojiiebeaaGreatQaf
import Derived.Test.YtkflggojiiebeaaGreatRows
import Derived.WalkKit
import Derived.ProofKit
import Derived.OpenShut
import Derived.DataShut
import Derived.Lib.SmallJoins
import Derived.Handy
import Derived.WalkSmall
import Derived.Deep.Draws
import Derived.WalkSpells
import Derived.Laws.AppendOwnNone
import Derived.Deep.AppendLies
import Derived.Lib.Hide
import Derived.Deep.MidRow
import Derived.Laws.BitsAllLaws
import Derived.WalkMore
import Derived.Deep.LoopGhost
import Derived.Deep.RegionHeld3
import Derived.Deep.QuietTactic
import Derived.BigQuiet
import Derived.Laws.Cover3
import Derived.Shelf.Spec.BitsCarry
import Derived.Laws.OwnMore
import Derived.Deep.DeepCutAuto
import Derived.Laws.EntriesVeiled
import Derived.Deep.CutRange
import Derived.Defers
import Derived.RangeFuncNested
import Derived.RangeFuncBound
import Derived.RangeFuncCalls
import Derived.RangeFuncLeaves
import Derived.Deep.WholeRow
import Derived.Shelf.Abstract
import Derived.Shelf.RegionOpen
import Derived.OwnWalkIn
import Derived.TacticsInMore
import Derived.LoopNIn
import Derived.LoopIn
import Derived.RangeFuncBox
import Derived.Maps.AppendAt
import Derived.Maps.OwnSet
import Derived.Maps.Own
import Derived.DeepKeys4
import Derived.Lib.AppendZerosOnto
import Derived.Lib.SliceRun
namespace Go.Proofs.YtkflggojiiebeaaGreat.Con
end Go.Proofs.YtkflggojiiebeaaGreat.Con
namespace Go.Proofs.YtkflggojiiebeaaGreat.Exa
end Go.Proofs.YtkflggojiiebeaaGreat.Exa
namespace Go.Proofs.YtkflggojiiebeaaGreat.Fld
end Go.Proofs.YtkflggojiiebeaaGreat.Fld
namespace Go.Proofs.YtkflggojiiebeaaGreat.Grd
end Go.Proofs.YtkflggojiiebeaaGreat.Grd
namespace Go.Proofs.YtkflggojiiebeaaGreat.Hsh
end Go.Proofs.YtkflggojiiebeaaGreat.Hsh
namespace Go.Proofs.YtkflggojiiebeaaGreat.Hvy
end Go.Proofs.YtkflggojiiebeaaGreat.Hvy
namespace Go.Proofs.YtkflggojiiebeaaGreat.Inn
end Go.Proofs.YtkflggojiiebeaaGreat.Inn
namespace Go.Proofs.YtkflggojiiebeaaGreat.Lev
end Go.Proofs.YtkflggojiiebeaaGreat.Lev
namespace Go.Proofs.YtkflggojiiebeaaGreat.Lin
end Go.Proofs.YtkflggojiiebeaaGreat.Lin
namespace Go.Proofs.YtkflggojiiebeaaGreat.Lw
end Go.Proofs.YtkflggojiiebeaaGreat.Lw
namespace Go.Proofs.YtkflggojiiebeaaGreat.Ord
end Go.Proofs.YtkflggojiiebeaaGreat.Ord
namespace Go.Proofs.YtkflggojiiebeaaGreat.Pcs
end Go.Proofs.YtkflggojiiebeaaGreat.Pcs
namespace Go.Proofs.YtkflggojiiebeaaGreat.Qnt
end Go.Proofs.YtkflggojiiebeaaGreat.Qnt
namespace Go.Proofs.YtkflggojiiebeaaGreat.Sed
end Go.Proofs.YtkflggojiiebeaaGreat.Sed
namespace Go.Proofs.YtkflggojiiebeaaGreat.Shp
end Go.Proofs.YtkflggojiiebeaaGreat.Shp
namespace Go.Proofs.YtkflggojiiebeaaGreat.Sk
end Go.Proofs.YtkflggojiiebeaaGreat.Sk
namespace Go.Proofs.YtkflggojiiebeaaGreat.Smr
end Go.Proofs.YtkflggojiiebeaaGreat.Smr
namespace Go.Proofs.YtkflggojiiebeaaGreat.Spn
end Go.Proofs.YtkflggojiiebeaaGreat.Spn
namespace Go.Proofs.YtkflggojiiebeaaGreat.Stk
end Go.Proofs.YtkflggojiiebeaaGreat.Stk
namespace Go.Proofs.YtkflggojiiebeaaGreat.Wid
end Go.Proofs.YtkflggojiiebeaaGreat.Wid
namespace Go.Proofs.YtkflggojiiebeaaGreat.Stk
open Go Go.RowKit Lw Grd Lin Con Shp Sk Exa Lev Go.Shelf
set_option linter.unusedVariables false
set_option linter.unusedSimpArgs false
theorem above_up {c : Cfg} {k : Int} (hr : IsRight c) (k0 : 0 ≤ k) (hk : k < keys c 0) {i : Nat} (hi : (i : Int) ≤ c.bt) : aboveV c i k = upK k i ∧ 0 ≤ upK k i ∧ upK k i ≤ k := by
  have h1 : keys c i ≠ 0 := by have := keys_pos.2 ⟨hr, by omega, hi⟩; omega
  have h2 : aboveOk c i k = true := decide_eq_true ⟨h1, hk⟩
  have hp : (0 : Int) < ((2 ^ i : Nat) : Int) := by have := Nat.one_le_two_pow (n := i); omega
  refine ⟨?_, Int.ediv_nonneg k0 (Int.le_of_lt hp), Int.ediv_le_self _ k0⟩
  unfold aboveV upK
  rw [if_pos h2]
  simp
theorem own_cell {w : World} {B : Nat} {e : TypeId} {hdr : Value} {vals : List Value} (h : (ownT B e hdr vals).I w) (hl : 0 < vals.length) : ∃ g cap, hdr = .slice (some ⟨g, 0, none⟩) vals.length cap ∧ vals.length ≤ cap ∧ cap ≤ maxLen ∧ ∀ (j : Nat) (v : Value), vals[j]? = some v → w.cell? ⟨g, j, none⟩ = some v := by
  have h1 : w.ownsRow B e 1 hdr vals.length vals := h
  rcases h1.2 with h0 | ⟨g, cap, cur, rfl, h2, h3, h4, h5, h6⟩
  · have := h0.2
    rw [this] at hl
    simp at hl
  · refine ⟨g, cap, rfl, h4, by assumption, fun j v hj => ?_⟩
    have h7 := h1.cells (g := g) rfl j v hj
    cases j with
    | zero => simpa [Addr.add] using h7
    | succ j => simpa [Addr.add] using h7
/-- A level's Check and Update through the closures. -/
theorem uchk_any (v : Value) (Q : Nat → Prop) (c : Cfg) (l : Int) (st : LS) (k d : Int) (bd : Nat) (w : World) (h : ELV w v Q c l st) (hd : w.cell? ⟨bd, 0, none⟩ = some (.int .i64 d)) (k0 : 0 ≤ k) (k1 : k ≤ 18446744073709551615) (d0 : -9223372036854775808 ≤ d) (d1 : d ≤ 9223372036854775807) :
    Calls Tryz.prog 49 #[v, .int .u64 k, .pointer (some ⟨bd, 0, none⟩)] w fun e w' => e = .returned (.int .i64 (lsCode c l st k d)) ∧ Below w.heap.size w w' := by
  have HE := Lib.hid h
  have K0 := Lib.hid k0
  have K1 := Lib.hid k1
  have D0 := Lib.hid d0
  have D1 := Lib.hid d1
  clear k0 k1 d0 d1 h
  cases st with
  | A L =>
    obtain ⟨p, rfl, h2⟩ := HE.out.2
    have HX := Lib.hid h2
    clear h2
    go_enter Tryz.func49, Tryz.ntmps49
    go_wp2_with (go_at_call 192; (with_reducible refine (echeck_any p Q c l L k d _ HX.out K0.out K1.out D0.out D1.out).mono ?_); rintro e w' ⟨rfl, hb⟩)
    go_ret
    exact ⟨rfl, hb⟩
  | S L =>
    obtain ⟨p, rfl, h2⟩ := HE.out.2
    have HX := Lib.hid h2
    clear h2
    go_enter Tryz.func49, Tryz.ntmps49
    go_wp2_with (go_at_call 206; (with_reducible refine (scheck_any p Q c l L k d _ HX.out K0.out K1.out D0.out D1.out).mono ?_); rintro e w' ⟨rfl, hb⟩)
    go_ret
    exact ⟨rfl, hb⟩
theorem uupd_any (v : Value) (Q : Nat → Prop) (c : Cfg) (l : Int) (st : LS) (k d : Int) (bd : Nat) (w : World) (h : ELV w v Q c l st) (hd : w.cell? ⟨bd, 0, none⟩ = some (.int .i64 d)) (k0 : 0 ≤ k) (k1 : k ≤ 18446744073709551615) (d0 : -9223372036854775808 ≤ d) (d1 : d ≤ 9223372036854775807) :
    Calls Tryz.prog 50 #[v, .int .u64 k, .pointer (some ⟨bd, 0, none⟩)] w fun e w' => e = .returned (.int .i64 (lsCode c l st k d)) ∧ ∃ Q', ELV w' v Q' c l (lsRes c l st k d) ∧ Kept Q w w' ∧ (∀ q, Q' q → Q q ∨ w.heap.size ≤ q) := by
  have HE := Lib.hid h
  have K0 := Lib.hid k0
  have K1 := Lib.hid k1
  have D0 := Lib.hid d0
  have D1 := Lib.hid d1
  clear k0 k1 d0 d1 h
  cases st with
  | A L =>
    obtain ⟨p, rfl, h2⟩ := HE.out.2
    have HX := Lib.hid h2
    clear h2
    go_enter Tryz.func50, Tryz.ntmps50
    go_wp2_with (go_at_call 197; (with_reducible refine (eupd_any p Q c l L k d _ HX.out K0.out K1.out D0.out D1.out).mono ?_); rintro e w' ⟨rfl, Q', h3, h4, h5⟩)
    go_ret
    exact ⟨rfl, Q', ⟨HE.out.1, p, rfl, h3⟩, h4, h5⟩
  | S L =>
    obtain ⟨p, rfl, h2⟩ := HE.out.2
    have HX := Lib.hid h2
    clear h2
    go_enter Tryz.func50, Tryz.ntmps50
    go_wp2_with (go_at_call 211; (with_reducible refine (supd_any p Q c l L k d _ HX.out K0.out K1.out D0.out D1.out).mono ?_); rintro e w' ⟨rfl, Q', h3, h4, h5⟩)
    go_ret
    exact ⟨rfl, Q', ⟨HE.out.1, p, rfl, h3⟩, h4, h5⟩
/-- What the iterator leans on, and the box of what is added. -/
def gsT (bs bk bd b B0 : Nat) (c : Cfg) (k d : Int) (hdr : Value) (vals : List Value) : List Thing := [boxT bk 22 #[.int .u64 k], boxT bs 30 #[.pointer (some ⟨b, 0, none⟩)], boxT bd 2 #[.int .i64 d], boxT b 105 #[.int .i64 c.bt, .int .i64 c.rw, .int .i64 c.wd, .int .i64 c.md, .int .u64 c.sd, hdr], ownT B0 107 hdr vals]
theorem above_seq (m : Nat) (hm : 1 ≤ m) (c : Cfg) (hc : c.Ok) (k d : Int) (k0 : 0 ≤ k) (k1 : k ≤ 18446744073709551615) (bs bk bd b B0 : Nat) (hdr : Value) (vals : List Value) (h1 : 0 < vals.length) (hN : vals.length ≤ 60) (F0 : Nat → Prop) (w0 w : World) (ls : List Thing) (hh : HoldC F0 w0 w (gsT bs bk bd b B0 c k d hdr vals ++ ls)) (w1 : World) (hb : Below w.heap.size w w1) :
    SeqStopsK Fence.wide m Tryz.prog 90 #[.pointer (some ⟨bs, 0, none⟩), .pointer (some ⟨bk, 0, none⟩)] (encL vals c k) (KeptG (manyT (gsT bs bk bd b B0 c k d hdr vals)).F) (fun xs => UpTo xs ∧ xs.length = vals.length) UpTo vals.length w1 := fun l J Jx W hW hJ hJx hY h0 => by
  have hh2 := hh.up (hb.trans (hW.mono hb.size))
  have b1 := hh2.i (t := boxT bs 30 #[.pointer (some ⟨b, 0, none⟩)]) (by simp [gsT])
  have b2 := hh2.i (t := boxT bk 22 #[.int .u64 k]) (by simp [gsT])
  have b3 := hh2.i (t := boxT b 105 #[.int .i64 c.bt, .int .i64 c.rw, .int .i64 c.wd, .int .i64 c.md, .int .u64 c.sd, hdr]) (by simp [gsT])
  have b4 := hh2.i (t := ownT B0 107 hdr vals) (by simp [gsT])
  have hG : ∀ k', (manyT (gsT bs bk bd b B0 c k d hdr vals)).F k' → k' < W.heap.size := fun k' hk => by
    obtain ⟨t, ht, hk2⟩ := hk
    exact t.lt W (hh2.i (List.mem_append_left _ ht)) k' hk2
  obtain ⟨g, cap, rfl, hcap, hmx, hcs⟩ := own_cell b4 h1
  exact above_iter m hm c hc k k0 k1 l bs bk b g cap _ vals hN ⟨boxT bs 30 #[.pointer (some ⟨b, 0, none⟩)], by simp [gsT], rfl⟩ ⟨boxT bk 22 #[.int .u64 k], by simp [gsT], rfl⟩ ⟨boxT b 105 #[.int .i64 c.bt, .int .i64 c.rw, .int .i64 c.wd, .int .i64 c.md, .int .u64 c.sd, .slice (some ⟨g, 0, none⟩) vals.length cap], by simp [gsT], rfl⟩ ⟨ownT B0 107 (.slice (some ⟨g, 0, none⟩) vals.length cap) vals, by simp [gsT], rfl⟩ J Jx W hG hJ hY (box_cell b1 rfl) (box_cell b2 rfl) b3 hcs h0
/-- What the first error of all is in a mode that does not take away. -/
theorem ers_mode {c : Cfg} {k d : Int} {sts : List LS} {w : World} {v : Value} {Q : Nat → Prop} {st : LS} (hr : IsRight c) (k0 : 0 ≤ k) (hk : k < keys c 0) (hm : c.md = 2 ∧ d < 0) (h0 : sts[0]? = some st) (h : ELV w v Q c ((0 : Nat) : Int) st) : ers c k d 0 sts = 3 := by
  have hu : upK k 0 = k := by simp [upK]
  have e1 : lsCode c ((0 : Nat) : Int) st (upK k 0) d = 3 := by
    rw [hu]
    cases st with
    | A L =>
      obtain ⟨p, rfl, h2⟩ := h.2
      have h3 := h2.size.1
      exact (ex_mode (by rw [h3]; exact hk) hm).1
    | S L =>
      show upCode c ((0 : Nat) : Int) L k d = 3
      unfold upCode
      rw [if_neg (by simp; exact hk), if_pos hm.1]
      exact (rs_neg (cols_meet k0 (by simpa using hk)) hm.2).1
  have h2 := ers_first c k d 0 sts 0 st (fun i s hi => by omega) h0 (by rw [Nat.add_zero, e1]; decide)
  rw [h2, Nat.add_zero, e1]
/-- All levels are asked. -/
theorem chk_first (c : Cfg) (hr : IsRight c) (hc : c.Ok) (k d : Int) (k0 : 0 ≤ k) (k1 : k ≤ 18446744073709551615) (hk : k < keys c 0) (d0 : -9223372036854775808 ≤ d) (d1 : d ≤ 9223372036854775807) (sts : List LS) (hl : sts.length = c.bt.toNat + 1) (bd b B0 : Nat) (hdr : Value) (vals : List Value) (ts : List Thing) (hrow : LRow elvT c vals ts sts) (F0 : Nat → Prop) (w0 w : World)
    (hh : HoldC F0 w0 w ([boxT bd 2 #[.int .i64 d], boxT b 105 #[.int .i64 c.bt, .int .i64 c.rw, .int .i64 c.wd, .int .i64 c.md, .int .u64 c.sd, hdr], ownT B0 107 hdr vals] ++ ts)) :
    Calls Tryz.prog 47 #[.func (.func 90) #[] #[.pointer (some ⟨w.heap.size, 0, none⟩), .pointer (some ⟨w.heap.size + 1, 0, none⟩)], .func (.func 49) #[] #[.pointer (some ⟨bd, 0, none⟩)]] ((w.alloc (.cells #[.pointer (some ⟨b, 0, none⟩)] 30)).alloc (.cells #[.int .u64 k] 22)) fun e w' =>
      e = .returned (.int .i64 (ers c k d 0 sts)) ∧ HoldC F0 w0 w' ([boxT bd 2 #[.int .i64 d], boxT b 105 #[.int .i64 c.bt, .int .i64 c.rw, .int .i64 c.wd, .int .i64 c.md, .int .u64 c.sd, hdr], ownT B0 107 hdr vals] ++ ts) := by
  have hvl : vals.length = sts.length := hrow.lv
  have hb59 := hr.1
  have hb60 := hr.2.1
  have B1 : Below w.heap.size w (w.alloc (.cells #[.pointer (some ⟨b, 0, none⟩)] 30)) := Lw.below_alloc (Below.refl _ _) _
  have B2 := Lw.below_alloc (Below.refl _ (w.alloc (.cells #[.pointer (some ⟨b, 0, none⟩)] 30))) (.cells #[.int .u64 k] 22)
  have N2 : ((w.alloc (.cells #[.pointer (some ⟨b, 0, none⟩)] 30)).alloc (.cells #[.int .u64 k] 22)).heap[w.heap.size + 1]? = some (.cells #[.int .u64 k] 22 (0, 0)) := by
    have := heap_alloc_new (w.alloc (.cells #[.pointer (some ⟨b, 0, none⟩)] 30)) (.cells #[.int .u64 k] 22)
    rw [World.size_alloc] at this
    exact this
  have h1 := hh.push (boxT w.heap.size 30 #[.pointer (some ⟨b, 0, none⟩)]) B1 (heap_alloc_new w _) (fun k hk => Nat.le_of_eq hk.symm) (cel_box (heap_alloc_new w _))
  have h2 := h1.push (boxT (w.heap.size + 1) 22 #[.int .u64 k]) B2 N2 (fun k hk => Nat.le_of_eq (by simp; exact hk.symm)) (cel_box N2)
  refine (first_1 c k vals _ bd F0 w0 _ (gsT w.heap.size (w.heap.size + 1) bd b B0 c k d hdr vals) ts
    (fun pre ls => ls = ts ∧ (UpTo pre → ∀ (i : Nat) (s : LS), i < pre.length → sts[i]? = some s → lsCode c ((0 + i : Nat) : Int) s (upK k (0 + i)) d = 0))
    (fun pre code ls => ls = ts ∧ (UpTo pre → ∃ (j : Nat) (s : LS), sts[j]? = some s ∧ lsCode c ((0 + j : Nat) : Int) s (upK k (0 + j)) d = code ∧ ∀ (i : Nat) (s : LS), i < j → sts[i]? = some s → lsCode c ((0 + i : Nat) : Int) s (upK k (0 + i)) d = 0))
    h2 ⟨rfl, fun _ i s hi => by simp at hi⟩
    (fun w1 m hm hb => above_seq m hm c hc k d k0 k1 w.heap.size (w.heap.size + 1) bd b B0 hdr vals (by omega) (by omega) F0 w0 _ ts h2 w1 hb)
    ?_).mono ?_
  · rintro us pre ls x W hW ⟨rfl, hp⟩ hlen
    have hx := x.2
    obtain ⟨st, v, Q, e1, e2, e3⟩ := hrow.at (j := x.1) (by omega)
    have e4 : vals[x.1]'x.2 = v := by
      have h9 := List.getElem?_eq_getElem x.2
      rw [e2] at h9
      exact (Option.some.inj h9).symm
    have hE : ELV W v Q c (x.1 : Int) st := hW.i (t := elvT v Q c (x.1 : Int) st) (List.mem_append_right _ (List.mem_append_right _ (List.mem_of_getElem? e3)))
    have hd := box_cell (hW.i (t := boxT bd 2 #[.int .i64 d]) (List.mem_append_right _ (List.mem_append_left _ (by simp [gsT])))) (i := 0) rfl
    obtain ⟨u1, u2, u3⟩ := above_up hr k0 hk (i := x.1) (by omega)
    rw [e4, u1]
    refine (uchk_any v Q c (x.1 : Int) st (upK k x.1) d bd W hE hd u2 (by omega) d0 d1).mono ?_
    rintro e W' ⟨rfl, hb⟩
    have hG : ∀ k', (manyT (gsT w.heap.size (w.heap.size + 1) bd b B0 c k d hdr vals)).F k' → k' < W.heap.size := fun k' hk => by
      obtain ⟨t, ht, hk2⟩ := hk
      exact t.lt W (hW.i (List.mem_append_right _ (List.mem_append_left _ ht))) k' hk2
    refine ⟨_, ls, rfl, others_of (F := fun _ => False) (Kept.of_below hb) (fun _ h => h.elim), KeptG.of_below hG hb, hW.up hb, fun hz => ⟨rfl, fun hup => ?_⟩, fun hz => ⟨rfl, fun hup => ?_⟩⟩
    · obtain ⟨g1, g2⟩ := UpTo.snoc.1 hup
      intro i s hi hs
      rw [List.length_append, List.length_singleton] at hi
      by_cases hlt : i < pre.length
      · exact hp g1 i s hlt hs
      · obtain rfl : i = x.1 := by omega
        rw [e1] at hs
        injection hs with hs
        subst hs
        rw [Nat.zero_add]
        exact hz
    · obtain ⟨g1, g2⟩ := UpTo.snoc.1 hup
      refine ⟨x.1, st, e1, by rw [Nat.zero_add], fun i s hi hs => hp g1 i s (by omega) hs⟩
  · rintro e W' ⟨ls, hW, (⟨rfl, xs, ⟨x1, x2⟩, rfl, hp⟩ | ⟨pre, code, hup, hne, rfl, rfl, hp⟩)⟩
    · refine ⟨?_, hW.drop.drop⟩
      rw [ers_none c k d 0 sts (fun i s hs => hp x1 i s (by have := (List.getElem?_eq_some_iff.1 hs).1; omega) hs)]
    · obtain ⟨j, s, s1, s2, s3⟩ := hp hup
      refine ⟨?_, hW.drop.drop⟩
      rw [ers_first c k d 0 sts j s s3 s1 (by rw [s2]; exact hne), s2]
/-- All levels are updated. -/
theorem upd_first (c : Cfg) (hr : IsRight c) (hc : c.Ok) (k d : Int) (k0 : 0 ≤ k) (k1 : k ≤ 18446744073709551615) (hk : k < keys c 0) (d0 : -9223372036854775808 ≤ d) (d1 : d ≤ 9223372036854775807) (sts : List LS) (hl : sts.length = c.bt.toNat + 1) (he : ers c k d 0 sts = 0) (bd b B0 : Nat) (hdr : Value) (vals : List Value) (ts : List Thing) (hrow : LRow elvT c vals ts sts) (F0 : Nat → Prop) (w0 w : World)
    (hh : HoldC F0 w0 w ([boxT bd 2 #[.int .i64 d], boxT b 105 #[.int .i64 c.bt, .int .i64 c.rw, .int .i64 c.wd, .int .i64 c.md, .int .u64 c.sd, hdr], ownT B0 107 hdr vals] ++ ts)) :
    Calls Tryz.prog 47 #[.func (.func 90) #[] #[.pointer (some ⟨w.heap.size, 0, none⟩), .pointer (some ⟨w.heap.size + 1, 0, none⟩)], .func (.func 50) #[] #[.pointer (some ⟨bd, 0, none⟩)]] ((w.alloc (.cells #[.pointer (some ⟨b, 0, none⟩)] 30)).alloc (.cells #[.int .u64 k] 22)) fun e w' =>
      e = .returned (.int .i64 0) ∧ ∃ ts', LRow elvT c vals ts' (rss c k d 0 sts) ∧ HoldC F0 w0 w' ([boxT bd 2 #[.int .i64 d], boxT b 105 #[.int .i64 c.bt, .int .i64 c.rw, .int .i64 c.wd, .int .i64 c.md, .int .u64 c.sd, hdr], ownT B0 107 hdr vals] ++ ts') := by
  have hvl : vals.length = sts.length := hrow.lv
  have hb59 := hr.1
  have hb60 := hr.2.1
  have B1 : Below w.heap.size w (w.alloc (.cells #[.pointer (some ⟨b, 0, none⟩)] 30)) := Lw.below_alloc (Below.refl _ _) _
  have B2 := Lw.below_alloc (Below.refl _ (w.alloc (.cells #[.pointer (some ⟨b, 0, none⟩)] 30))) (.cells #[.int .u64 k] 22)
  have N2 : ((w.alloc (.cells #[.pointer (some ⟨b, 0, none⟩)] 30)).alloc (.cells #[.int .u64 k] 22)).heap[w.heap.size + 1]? = some (.cells #[.int .u64 k] 22 (0, 0)) := by
    have := heap_alloc_new (w.alloc (.cells #[.pointer (some ⟨b, 0, none⟩)] 30)) (.cells #[.int .u64 k] 22)
    rw [World.size_alloc] at this
    exact this
  have h1 := hh.push (boxT w.heap.size 30 #[.pointer (some ⟨b, 0, none⟩)]) B1 (heap_alloc_new w _) (fun k hk => Nat.le_of_eq hk.symm) (cel_box (heap_alloc_new w _))
  have h2 := h1.push (boxT (w.heap.size + 1) 22 #[.int .u64 k]) B2 N2 (fun k hk => Nat.le_of_eq (by simp; exact hk.symm)) (cel_box N2)
  refine (first_2 c k vals _ bd F0 w0 _ (gsT w.heap.size (w.heap.size + 1) bd b B0 c k d hdr vals) ts
    (fun pre ls => ∃ sts', LRow elvT c vals ls sts' ∧ sts'.length = sts.length ∧ (UpTo pre → ∀ (i : Nat), sts'[i]? = if i < pre.length then (rss c k d 0 sts)[i]? else sts[i]?))
    (fun pre code ls => UpTo pre → False)
    h2 ⟨sts, hrow, rfl, fun _ i => by simp⟩
    (fun w1 m hm hb => above_seq m hm c hc k d k0 k1 w.heap.size (w.heap.size + 1) bd b B0 hdr vals (by omega) (by omega) F0 w0 _ ts h2 w1 hb)
    ?_).mono ?_
  · rintro us pre ls x W hW ⟨sts', hrow', hl', hp⟩ hlen
    have hx := x.2
    obtain ⟨st, v, Q, e1, e2, e3⟩ := hrow'.at (j := x.1) (by omega)
    have e4 : vals[x.1]'x.2 = v := by
      have h9 := List.getElem?_eq_getElem x.2
      rw [e2] at h9
      exact (Option.some.inj h9).symm
    have hm3 : elvT v Q c (x.1 : Int) st ∈ ls := List.mem_of_getElem? e3
    have hE : ELV W v Q c (x.1 : Int) st := hW.i (t := elvT v Q c (x.1 : Int) st) (List.mem_append_right _ (List.mem_append_right _ hm3))
    have hd := box_cell (hW.i (t := boxT bd 2 #[.int .i64 d]) (List.mem_append_right _ (List.mem_append_left _ (by simp [gsT])))) (i := 0) rfl
    obtain ⟨u1, u2, u3⟩ := above_up hr k0 hk (i := x.1) (by omega)
    rw [e4, u1]
    refine (uupd_any v Q c (x.1 : Int) st (upK k x.1) d bd W hE hd u2 (by omega) d0 d1).mono ?_
    rintro e W' ⟨rfl, Q', hE', hk', hq'⟩
    have hG : ∀ k', (manyT (gsT w.heap.size (w.heap.size + 1) bd b B0 c k d hdr vals)).F k' → k' < W.heap.size := fun k' hk => by
      obtain ⟨t, ht, hk2⟩ := hk
      exact t.lt W (hW.i (List.mem_append_right _ (List.mem_append_left _ ht))) k' hk2
    have hW2 : HoldC F0 w0 W ((us ++ gsT w.heap.size (w.heap.size + 1) bd b B0 c k d hdr vals) ++ (ls ++ [])) := by simpa using hW
    have hW3 := hW2.set e3 (elvT v Q' c (x.1 : Int) (lsRes c (x.1 : Int) st (upK k x.1) d)) hE' hk' hq' (cel_elv hE')
    have hW4 : HoldC F0 w0 W' (us ++ (gsT w.heap.size (w.heap.size + 1) bd b B0 c k d hdr vals ++ ls.set x.1 (elvT v Q' c (x.1 : Int) (lsRes c (x.1 : Int) st (upK k x.1) d)))) := by simpa using hW3
    have hst : UpTo (pre ++ [x]) → sts[x.1]? = some st ∧ x.1 = pre.length ∧ UpTo pre := fun hup => by
      obtain ⟨g1, g2⟩ := UpTo.snoc.1 hup
      have g3 := hp g1 x.1
      rw [if_neg (by omega), e1] at g3
      exact ⟨g3.symm, g2, g1⟩
    refine ⟨_, _, rfl, others_of hk' (cel_elv hE), KeptG.of_kept hG hk' (fun k' ⟨t, ht, h5⟩ => hW.apart hm3 ht h5), hW4, fun hz => ⟨sts'.set x.1 (lsRes c (x.1 : Int) st (upK k x.1) d), hrow'.put e2 Q' _, by simp [hl'], fun hup i => ?_⟩, fun hz hup => ?_⟩
    · obtain ⟨s1, s2, s3⟩ := hst hup
      rw [List.length_append, List.length_singleton, List.getElem?_set]
      by_cases hi : x.1 = i
      · subst hi
        have hlt : x.1 < sts'.length := by omega
        rw [if_pos rfl, if_pos hlt, if_pos (by omega), rss_get c k d 0 sts x.1 st s1, Nat.zero_add]
      · rw [if_neg hi, hp s3 i]
        by_cases hi2 : i < pre.length
        · rw [if_pos hi2, if_pos (by omega)]
        · rw [if_neg hi2, if_neg (by omega)]
    · obtain ⟨s1, s2, s3⟩ := hst hup
      have h9 := ers_ok c k d 0 sts he x.1 st s1
      rw [Nat.zero_add] at h9
      exact hz h9
  · rintro e W' ⟨ls, hW, (⟨rfl, xs, ⟨x1, x2⟩, sts', hrow', hl', hp⟩ | ⟨pre, code, hup, hne, rfl, hp⟩)⟩
    · refine ⟨rfl, ls, ?_, hW.drop.drop⟩
      have e9 : sts' = rss c k d 0 sts := List.ext_getElem? (fun i => by
        rw [hp x1 i]
        by_cases hi : i < xs.length
        · rw [if_pos hi]
        · rw [if_neg hi, List.getElem?_eq_none (by omega), List.getElem?_eq_none (by rw [rss_len]; omega)])
      rw [← e9]
      exact hrow'
    · exact (hp hup).elim
end Go.Proofs.YtkflggojiiebeaaGreat.Stk

namespace Go.Proofs.YtkflggojiiebeaaGreat.Stk
open Go Go.RowKit Lw Grd Lin Con Shp Sk Exa Lev Go.Shelf
set_option linter.unusedVariables false
set_option linter.unusedSimpArgs false
theorem lvs_u : Tryz.prog.underlying 103 = some (.slice 107) := by kernel_rfl
theorem lvs_info : (Tryz.prog.info? 107).map (fun i => (i.zero, i.size, i.bytes)) = some (some .nilIface, 1, 16) := by kernel_rfl
theorem Asun.sub {ts us : List Thing} (h : ts.Sublist us) : Asun us → Asun ts := by
  induction h with
  | slnil => exact id
  | cons a h ih => exact fun g => ih g.2
  | cons_cons a h ih => exact fun g => ⟨fun u hu => g.1 u (h.subset hu), ih g.2⟩
theorem HoldC.sub {F0 : Nat → Prop} {w0 w : World} {ts us : List Thing} (h : HoldC F0 w0 w us) (hs : ts.Sublist us) : HoldC F0 w0 w ts :=
  ⟨⟨h.1.1, fun t ht => h.1.2.1 t (hs.subset ht), Asun.sub hs h.1.2.2⟩, fun t ht => h.2 t (hs.subset ht)⟩
theorem HoldC.start0 {w w' : World} (h : Below w.heap.size w w') : HoldC (fun _ => False) w w' [] := ⟨⟨Kept.of_below h, fun t ht => by simp at ht, trivial⟩, fun t ht => by simp at ht⟩
/-- A new thing behind the others. -/
theorem HoldC.snoc {F0 : Nat → Prop} {w0 w w' : World} {ts : List Thing} (h : HoldC F0 w0 w ts) (t : Thing) (hb : Below w.heap.size w w') (ht : t.I w') (hn : ∀ k, t.F k → w.heap.size ≤ k) (hc : Cel t.F w') : HoldC F0 w0 w' (ts ++ [t]) := by
  have h2 := h.push t hb ht hn hc
  refine ⟨⟨h2.1.1, fun u hu => h2.1.2.1 u (by simpa [or_comm] using hu), Asun.append.2 ⟨h2.1.2.2.2, ⟨fun u hu => by simp at hu, trivial⟩, fun u hu v hv k h3 h4 => ?_⟩⟩, fun u hu => h2.2 u (by simpa [or_comm] using hu)⟩
  rw [List.mem_singleton.1 hv] at h4
  exact h2.1.2.2.1 u hu k h4 h3
/-- One value appended to a row of one's own. -/
theorem HoldC.app {F0 : Nat → Prop} {w0 w w' : World} {fs ts : List Thing} {B : Nat} {e : TypeId} {hdr : Value} {vals : List Value} {v : Value} {g cap : Nat} (h : HoldC F0 w0 w (fs ++ ownT B e hdr vals :: ts)) (own : w'.ownsRow B e 1 (.slice (some ⟨g, 0, none⟩) (vals.length + 1) cap) (vals.length + 1) (vals ++ [v])) (grow : w.grownBy w' hdr.ownBlock) (hat : hdr.ownBlock = some g ∨ g = w.heap.size) :
    HoldC F0 w0 w' (fs ++ ownT B e (.slice (some ⟨g, 0, none⟩) (vals.length + 1) cap) (vals ++ [v]) :: ts) := by
  have hI : (ownT B e (.slice (some ⟨g, 0, none⟩) (vals.length + 1) cap) (vals ++ [v])).I w' := by
    show w'.ownsRow B e 1 _ (vals ++ [v]).length (vals ++ [v])
    rw [List.length_append, List.length_singleton]
    exact own
  refine h.turn _ hI ((Kept.refl _ w).grown grow (fun q e => .inl e)) (fun k hk => ?_) (cel_own hI)
  have hk2 : some g = some k := hk
  injection hk2 with hk2
  rcases hat with h1 | h1
  · exact .inl (show hdr.ownBlock = some k by rw [h1, hk2])
  · exact .inr (by omega)
theorem elv_form {w : World} {v : Value} {F : Nat → Prop} {c : Cfg} {l : Int} {st : LS} (h : ELV w v F c l st) : ∃ t p, v = .iface t (.pointer (some p)) := by
  cases st with
  | A L =>
    obtain ⟨p, rfl, h2⟩ := h.2
    exact ⟨_, _, rfl⟩
  | S L =>
    obtain ⟨p, rfl, h2⟩ := h.2
    exact ⟨_, _, rfl⟩
theorem own_nil (B : Nat) (e : TypeId) (w : World) : (ownT B e (.slice none 0 0) []).I w := World.ownsRow_nil _ _ _ _
theorem own_nilF (B : Nat) (e : TypeId) {k m : Nat} (h : (ownT B e (.slice none 0 0) []).F k) : m ≤ k := by
  have h2 : (none : Option Nat) = some k := h
  cases h2
/-- A stack of the code, as a box. -/
abbrev skB (b : Nat) (c : Cfg) (hdr : Value) : Thing := boxT b 105 #[.int .i64 c.bt, .int .i64 c.rw, .int .i64 c.wd, .int .i64 c.md, .int .u64 c.sd, hdr]
theorem skb_set {w : World} {b : Nat} {c : Cfg} {hdr hdr' : Value} (h : (skB b c hdr).I w) : (skB b c hdr').I (w.setCell ⟨b, 5, none⟩ hdr') := by
  have h2 : w.heap[b]? = some (.cells #[.int .i64 c.bt, .int .i64 c.rw, .int .i64 c.wd, .int .i64 c.md, .int .u64 c.sd, hdr] 105 (0, 0)) := h
  obtain ⟨hlt, hk⟩ := Array.getElem?_eq_some_iff.1 h2
  show (w.heap.modify b _)[b]? = _
  rw [Array.getElem?_eq_getElem (by rw [Array.size_modify]; exact hlt), Array.getElem_modify_self, hk]
  rfl
theorem HoldC.store {F0 : Nat → Prop} {w0 w : World} {fs ts : List Thing} {b : Nat} {c : Cfg} {hdr : Value} (h : HoldC F0 w0 w (fs ++ skB b c hdr :: ts)) (hdr' : Value) : HoldC F0 w0 (w.setCell ⟨b, 5, none⟩ hdr') (fs ++ skB b c hdr' :: ts) := by
  have hb := skb_set (hdr' := hdr') (h.i (t := skB b c hdr) (by simp))
  exact h.turn (skB b c hdr') hb (Kept.set (F := (skB b c hdr).F) (Kept.refl _ _) (.inl rfl) 5 hdr') (fun k hk => .inl hk) (cel_box hb)
/-- The stack, as things that hold cells. -/
theorem st_hold {w : World} {b B0 : Nat} {c : Cfg} {hdr : Value} {vals : List Value} {ts : List Thing} {sts : List LS} (hrow : LRow elvT c vals ts sts) (h : (manyT (skB b c hdr :: ownT B0 107 hdr vals :: ts)).I w) : HoldC (manyT (skB b c hdr :: ownT B0 107 hdr vals :: ts)).F w w (skB b c hdr :: ownT B0 107 hdr vals :: ts) := by
  refine ⟨Hold.start h, fun t ht => ?_⟩
  rcases List.mem_cons.1 ht with rfl | ht2
  · exact cel_box (h.1 _ (by simp))
  · rcases List.mem_cons.1 ht2 with rfl | ht3
    · exact cel_own (h.1 _ (by simp))
    · obtain ⟨j, hj⟩ := List.getElem?_of_mem ht3
      have hlt := (List.getElem?_eq_some_iff.1 hj).1
      obtain ⟨st, v, Q, e1, e2, e3⟩ := hrow.at (j := j) (by rw [← hrow.lt]; exact hlt)
      rw [hj] at e3
      injection e3 with e3
      subst e3
      exact cel_elv (show ELV w v Q c (j : Int) st from h.1 _ ht)
/-- A stack that is held. -/
theorem st_of {F0 : Nat → Prop} {w0 w : World} {b B0 : Nat} {c : Cfg} {hdr : Value} {vals : List Value} {ts : List Thing} {sts : List LS} (hr : IsRight c) (hc : c.Ok) (hl : sts.length = c.bt.toNat + 1) (hrow : LRow elvT c vals ts sts) (h : HoldC F0 w0 w (skB b c hdr :: ownT B0 107 hdr vals :: ts)) :
    ST w ⟨b, 0, none⟩ (manyT (skB b c hdr :: ownT B0 107 hdr vals :: ts)).F c sts ∧ Kept F0 w0 w ∧ ∀ q, (manyT (skB b c hdr :: ownT B0 107 hdr vals :: ts)).F q → F0 q ∨ w0.heap.size ≤ q := by
  have h2 := h.1.many
  exact ⟨⟨hr, hc, hl, b, B0, hdr, vals, ts, rfl, hrow, h2.1, rfl⟩, h2.2.1, h2.2.2⟩
end Go.Proofs.YtkflggojiiebeaaGreat.Stk

namespace Go.Proofs.YtkflggojiiebeaaGreat.Stk
open Go Go.RowKit Lw Grd Lin Con Shp Sk Exa Lev Go.Shelf
set_option linter.unusedVariables false
set_option linter.unusedSimpArgs false
theorem cs_config (p : Addr) (F : Nat → Prop) (c : Cfg) (sts : List LS) (w : World) (h : ST w p F c sts) :
    Calls Tryz.prog 53 #[.pointer (some p)] w fun e w' => e = .returned (.agg #[.int .i64 c.bt, .int .i64 c.rw, .int .i64 c.wd, .int .i64 c.md, .int .u64 c.sd]) ∧ Below w.heap.size w w' := by
  obtain ⟨hr, hc, hl, b, B0, hdr, vals, ts, rfl, hrow, hI, rfl⟩ := h
  have HH := Lib.hid (st_hold hrow hI)
  have hb1 := hr.1
  have hb2 := hr.2.1
  have hvl : vals.length = c.bt.toNat + 1 := hrow.lv.trans hl
  obtain ⟨g, cap, rfl, hcap, hmx, hcs⟩ := own_cell (HH.out.i (t := ownT B0 107 hdr vals) (by simp)) (by omega)
  have HCS := Lib.hid hcs
  have c0 := box_cell (HH.out.i (t := skB b c (.slice (some ⟨g, 0, none⟩) vals.length cap)) (by simp)) (i := 0) rfl
  have c1 := box_cell (HH.out.i (t := skB b c (.slice (some ⟨g, 0, none⟩) vals.length cap)) (by simp)) (i := 1) rfl
  have c2 := box_cell (HH.out.i (t := skB b c (.slice (some ⟨g, 0, none⟩) vals.length cap)) (by simp)) (i := 2) rfl
  have c3 := box_cell (HH.out.i (t := skB b c (.slice (some ⟨g, 0, none⟩) vals.length cap)) (by simp)) (i := 3) rfl
  have c4 := box_cell (HH.out.i (t := skB b c (.slice (some ⟨g, 0, none⟩) vals.length cap)) (by simp)) (i := 4) rfl
  have hbl := box_lt (HH.out.i (t := skB b c (.slice (some ⟨g, 0, none⟩) vals.length cap)) (by simp))
  clear hrow hI hcs
  go_enter Tryz.func53, Tryz.ntmps53
  go_wp2
  go_returns
  exact ⟨rfl, (by (repeat' (first | (with_reducible first | exact Below.refl _ _ | assumption | refine below_over ?_ _ _ | refine Lw.below_alloc ?_ _ | refine Below.drew ?_ | refine below_drewN ?_ _ | refine Below.setCell ?_ ?_ _) | go_size)))⟩
theorem shas_any (p : Addr) (F : Nat → Prop) (c : Cfg) (sts : List LS) (n : Int) (w : World) (h : ST w p F c sts) (n0 : -9223372036854775808 ≤ n) (n1 : n ≤ 9223372036854775807) :
    Calls Tryz.prog 64 #[.pointer (some p), .int .i64 n] w fun e w' => e = .returned (.bool (decide (0 ≤ n ∧ n ≤ c.bt))) ∧ w' = w := by
  obtain ⟨hr, hc, hl, b, B0, hdr, vals, ts, rfl, hrow, hI, rfl⟩ := h
  have HH := Lib.hid (st_hold hrow hI)
  have hb1 := hr.1
  have hb2 := hr.2.1
  have hvl : vals.length = c.bt.toNat + 1 := hrow.lv.trans hl
  obtain ⟨g, cap, rfl, hcap, hmx, hcs⟩ := own_cell (HH.out.i (t := ownT B0 107 hdr vals) (by simp)) (by omega)
  have HCS := Lib.hid hcs
  have c5 := box_cell (HH.out.i (t := skB b c (.slice (some ⟨g, 0, none⟩) vals.length cap)) (by simp)) (i := 5) rfl
  have L6 : (vals.length : Int) = c.bt + 1 := by omega
  have HX : Hid (∀ x : Bool, x = decide (0 ≤ n ∧ n ≤ c.bt) → x = decide (0 ≤ n ∧ n ≤ c.bt)) := Lib.hid (fun _ h => h)
  clear hrow hI hcs
  by_cases hn : 0 ≤ n
  · by_cases hn2 : n ≤ c.bt
    · have hn3 : n < (vals.length : Int) := by omega
      have e : decide (0 ≤ n ∧ n ≤ c.bt) = true := decide_eq_true ⟨hn, hn2⟩
      rw [e]
      go_enter Tryz.func64, Tryz.ntmps64
      go_wp2
      go_ret
      exact ⟨ret_bl (by first | (simp [hn, hn3]; done) | (simp [hn]; omega)), rfl⟩
    · have hn3 : ¬ n < (vals.length : Int) := by omega
      have e : decide (0 ≤ n ∧ n ≤ c.bt) = false := decide_eq_false (fun g => hn2 g.2)
      rw [e]
      go_enter Tryz.func64, Tryz.ntmps64
      go_wp2
      go_ret
      exact ⟨ret_bl (by first | (simp [hn]; done) | (simp [hn]; omega) | (simp; omega)), rfl⟩
  · have e : decide (0 ≤ n ∧ n ≤ c.bt) = false := decide_eq_false (fun g => hn g.1)
    rw [e]
    go_enter Tryz.func64, Tryz.ntmps64
    go_wp2
    go_ret
    exact ⟨ret_bl (by first | (simp [hn]; done) | (simp [hn]; omega) | (simp; omega)), rfl⟩
theorem st_at {b B0 : Nat} {c : Cfg} {hdr : Value} {vals : List Value} {ts : List Thing} {sts : List LS} {F0 : Nat → Prop} {w0 w : World} (hrow : LRow elvT c vals ts sts) (hH : HoldC F0 w0 w (skB b c hdr :: ownT B0 107 hdr vals :: ts)) {n : Nat} {st : LS} (hn : sts[n]? = some st) : ∃ v Q, vals[n]? = some v ∧ ELV w v Q c (n : Int) st := by
  obtain ⟨st2, v, Q, e1, e2, e3⟩ := hrow.at (j := n) ((List.getElem?_eq_some_iff.1 hn).1)
  rw [hn] at e1
  injection e1 with e1
  subst e1
  exact ⟨v, Q, e2, hH.i (t := elvT v Q c (n : Int) st) (List.mem_cons_of_mem _ (List.mem_cons_of_mem _ (List.mem_of_getElem? e3)))⟩
theorem spv_no {c : Cfg} {sts : List LS} {n : Int} (hl : sts.length = c.bt.toNat + 1) (hb : 1 ≤ c.bt) (hn : ¬ (0 ≤ n ∧ n ≤ c.bt)) (i : Int) : spV c sts n i = 0 ∧ spC c sts n i = 2 ∧ lvFl sts n = [] := by
  unfold spV spC lvFl
  by_cases h0 : 0 ≤ n
  · rw [if_pos h0, if_pos h0, if_pos h0, List.getElem?_eq_none (by omega)]
    exact ⟨rfl, rfl, rfl⟩
  · rw [if_neg h0, if_neg h0, if_neg h0]
    exact ⟨rfl, rfl, rfl⟩
theorem spv_yes {c : Cfg} {sts : List LS} {n : Nat} {st : LS} (hn : sts[n]? = some st) (i : Int) : spV c sts (n : Int) i = lsPtV c n st i ∧ spC c sts (n : Int) i = lsPtC c n st i ∧ lvFl sts (n : Int) = st.fl := by
  unfold spV spC lvFl
  rw [if_pos (by omega), if_pos (by omega), if_pos (by omega), Int.toNat_natCast, hn]
  exact ⟨rfl, rfl, rfl⟩
set_option maxHeartbeats 8000000 in
theorem cs_point (p : Addr) (F : Nat → Prop) (c : Cfg) (sts : List LS) (n i : Int) (w : World) (h : ST w p F c sts) (n0 : -9223372036854775808 ≤ n) (n1 : n ≤ 9223372036854775807) (i0 : 0 ≤ i) (i1 : i ≤ 18446744073709551615) :
    Calls Tryz.prog 77 #[.pointer (some p), .agg #[.int .i64 n, .int .u64 i]] w fun e w' => e = .returned (.tuple #[.int .i64 (spV c sts n i), .int .i64 (spC c sts n i)]) ∧ Below w.heap.size w w' := by
  have HS := Lib.hid h
  have N0 := Lib.hid n0
  have N1 := Lib.hid n1
  have I0 := Lib.hid i0
  have I1 := Lib.hid i1
  by_cases hd0 : 0 ≤ n ∧ n ≤ c.bt
  · obtain ⟨m, rfl⟩ : ∃ m : Nat, n = m := ⟨n.toNat, by omega⟩
    have hd : decide (0 ≤ (m : Int) ∧ (m : Int) ≤ c.bt) = true := decide_eq_true hd0
    obtain ⟨hr, hc, hl, b, B0, hdr, vals, ts, rfl, hrow, hI, rfl⟩ := h
    have HH := Lib.hid (st_hold hrow hI)
    have hb1 := hr.1
    have hb2 := hr.2.1
    have hvl : vals.length = c.bt.toNat + 1 := hrow.lv.trans hl
    obtain ⟨g, cap, rfl, hcap, hmx, hcs⟩ := own_cell (HH.out.i (t := ownT B0 107 hdr vals) (by simp)) (by omega)
    have HCS := Lib.hid hcs
    have c5 := box_cell (HH.out.i (t := skB b c (.slice (some ⟨g, 0, none⟩) vals.length cap)) (by simp)) (i := 5) rfl
    have L6 : (vals.length : Int) = c.bt + 1 := by omega
    have hn4 : (m : Int) < (vals.length : Int) := by omega
    have hn5 : m < vals.length := by omega
    have hn6 : (0 : Int) ≤ (m : Int) := by omega
    obtain ⟨st, hst⟩ : ∃ st, sts[m]? = some st := ⟨_, List.getElem?_eq_getElem (by omega)⟩
    obtain ⟨e1, e2, _⟩ := spv_yes (c := c) hst i
    rw [e1, e2]
    obtain ⟨v, Q, e3, hE⟩ := st_at hrow HH.out hst
    have c6 := hcs m v e3
    have HE := Lib.hid hE
    have hd1 := hd0.2
    have hlt5 := cell_lt c5
    have hlt6 := cell_lt c6
    clear hrow hI hcs hE e3 hst e1 e2 hd0 n0 n1 i0 i1 L6 hvl
    cases st with
    | A L =>
      obtain ⟨q, rfl, h2⟩ := HE.out.2
      have HX := Lib.hid h2
      clear h2
      go_enter Tryz.func77, Tryz.ntmps77
      go_wp2_with (go_at_call 64; (with_reducible refine (shas_any _ _ c sts m _ (HS.out.up (Lw.below_alloc (Below.refl _ _) _)) N0.out N1.out).mono ?_); rintro e w' ⟨rfl, rfl⟩; rw [hd])
      have k5 := cell_up c5 (Lw.below_alloc (Below.refl _ w) (.cells #[.int .i64 m, .int .u64 i] 82))
      have k6 := cell_up c6 (Lw.below_alloc (Below.refl _ w) (.cells #[.int .i64 m, .int .u64 i] 82))
      have q0 : (w.alloc (.cells #[.int .i64 m, .int .u64 i] 82)).cell? ⟨w.heap.size, 0, none⟩ = some (.int .i64 m) := box_cell (heap_alloc_new w _) rfl
      have q1 : (w.alloc (.cells #[.int .i64 m, .int .u64 i] 82)).cell? ⟨w.heap.size, 1, none⟩ = some (.int .u64 i) := box_cell (heap_alloc_new w _) rfl
      have B0w : Below w.heap.size w (w.alloc (.cells #[.int .i64 m, .int .u64 i] 82)) := Lw.below_alloc (Below.refl _ _) _
      have HX1 := Lib.hid (HX.out.up B0w)
      obtain ⟨W, hW⟩ : ∃ W, w.alloc (.cells #[.int .i64 m, .int .u64 i] 82) = W := ⟨_, rfl⟩
      have hWs : w.heap.size < W.heap.size := by rw [← hW]; simp
      rw [hW] at k5 k6 q0 q1 B0w HX1 ⊢
      clear hW
      go_region_held3 (fun w' => Below W.heap.size W w' ∧ w'.cell? ⟨b, 5, none⟩ = some (.slice (some ⟨g, 0, none⟩) vals.length cap) ∧ w'.cell? ⟨w.heap.size, 0, none⟩ = some (.int .i64 m) ∧ w'.cell? ⟨w.heap.size, 1, none⟩ = some (.int .u64 i) ∧ w'.cell? ⟨g, m, none⟩ = some (.iface 173 (.pointer (some q)))) (first | (refine ⟨?_, ?_, ?_, ?_, ?_⟩ <;> (first | (with_reducible assumption) | (with_reducible refine cell_up k5 ?_) | (with_reducible refine cell_up k6 ?_) | (with_reducible refine cell_up q0 ?_) | (with_reducible refine cell_up q1 ?_) | skip) <;> (repeat' (first | (with_reducible exact Below.refl _ _) | (with_reducible assumption) | (with_reducible refine below_over ?_ _ _) | (with_reducible refine Lw.below_alloc ?_ _) | (with_reducible refine Below.drew ?_) | (with_reducible refine below_drewN ?_ _) | go_size)))) (first
        | (go_at_call 196; (with_reducible refine (epoint_any q Q c m L i _ (HX1.out.up (by (repeat' (first | (with_reducible first | exact Below.refl _ _ | assumption | refine below_over ?_ _ _ | refine Lw.below_alloc ?_ _ | refine Below.drew ?_ | refine below_drewN ?_ _ | refine Below.setCell ?_ ?_ _) | go_size)))) I0.out I1.out).mono ?_); rintro e w5 ⟨rfl, hb⟩; obtain ⟨bs, d, rfl⟩ := below_grow hb; clear hb))
      all_goals go_wp2
      all_goals go_ret2
      all_goals exact ⟨rfl, B0w.trans ((show Below W.heap.size W _ from (by (repeat' (first | (with_reducible first | exact Below.refl _ _ | assumption | refine below_over ?_ _ _ | refine Lw.below_alloc ?_ _ | refine Below.drew ?_ | refine below_drewN ?_ _ | refine Below.setCell ?_ ?_ _) | go_size)))).mono B0w.size)⟩
    | S L =>
      obtain ⟨q, rfl, h2⟩ := HE.out.2
      have HX := Lib.hid h2
      clear h2
      go_enter Tryz.func77, Tryz.ntmps77
      go_wp2_with (go_at_call 64; (with_reducible refine (shas_any _ _ c sts m _ (HS.out.up (Lw.below_alloc (Below.refl _ _) _)) N0.out N1.out).mono ?_); rintro e w' ⟨rfl, rfl⟩; rw [hd])
      have k5 := cell_up c5 (Lw.below_alloc (Below.refl _ w) (.cells #[.int .i64 m, .int .u64 i] 82))
      have k6 := cell_up c6 (Lw.below_alloc (Below.refl _ w) (.cells #[.int .i64 m, .int .u64 i] 82))
      have q0 : (w.alloc (.cells #[.int .i64 m, .int .u64 i] 82)).cell? ⟨w.heap.size, 0, none⟩ = some (.int .i64 m) := box_cell (heap_alloc_new w _) rfl
      have q1 : (w.alloc (.cells #[.int .i64 m, .int .u64 i] 82)).cell? ⟨w.heap.size, 1, none⟩ = some (.int .u64 i) := box_cell (heap_alloc_new w _) rfl
      have B0w : Below w.heap.size w (w.alloc (.cells #[.int .i64 m, .int .u64 i] 82)) := Lw.below_alloc (Below.refl _ _) _
      have HX1 := Lib.hid (HX.out.up B0w)
      obtain ⟨W, hW⟩ : ∃ W, w.alloc (.cells #[.int .i64 m, .int .u64 i] 82) = W := ⟨_, rfl⟩
      have hWs : w.heap.size < W.heap.size := by rw [← hW]; simp
      rw [hW] at k5 k6 q0 q1 B0w HX1 ⊢
      clear hW
      go_region_held3 (fun w' => Below W.heap.size W w' ∧ w'.cell? ⟨b, 5, none⟩ = some (.slice (some ⟨g, 0, none⟩) vals.length cap) ∧ w'.cell? ⟨w.heap.size, 0, none⟩ = some (.int .i64 m) ∧ w'.cell? ⟨w.heap.size, 1, none⟩ = some (.int .u64 i) ∧ w'.cell? ⟨g, m, none⟩ = some (.iface 176 (.pointer (some q)))) (first | (refine ⟨?_, ?_, ?_, ?_, ?_⟩ <;> (first | (with_reducible assumption) | (with_reducible refine cell_up k5 ?_) | (with_reducible refine cell_up k6 ?_) | (with_reducible refine cell_up q0 ?_) | (with_reducible refine cell_up q1 ?_) | skip) <;> (repeat' (first | (with_reducible exact Below.refl _ _) | (with_reducible assumption) | (with_reducible refine below_over ?_ _ _) | (with_reducible refine Lw.below_alloc ?_ _) | (with_reducible refine Below.drew ?_) | (with_reducible refine below_drewN ?_ _) | go_size)))) (first
        | (go_at_call 210; (with_reducible refine (spoint_any q Q c m L i _ (HX1.out.up (by (repeat' (first | (with_reducible first | exact Below.refl _ _ | assumption | refine below_over ?_ _ _ | refine Lw.below_alloc ?_ _ | refine Below.drew ?_ | refine below_drewN ?_ _ | refine Below.setCell ?_ ?_ _) | go_size)))) I0.out I1.out).mono ?_); rintro e w5 ⟨rfl, hb⟩; obtain ⟨bs, d, rfl⟩ := below_grow hb; clear hb))
      all_goals go_wp2
      all_goals go_ret2
      all_goals exact ⟨rfl, B0w.trans ((show Below W.heap.size W _ from (by (repeat' (first | (with_reducible first | exact Below.refl _ _ | assumption | refine below_over ?_ _ _ | refine Lw.below_alloc ?_ _ | refine Below.drew ?_ | refine below_drewN ?_ _ | refine Below.setCell ?_ ?_ _) | go_size)))).mono B0w.size)⟩
  · have hd : decide (0 ≤ n ∧ n ≤ c.bt) = false := decide_eq_false hd0
    obtain ⟨e1, e2, _⟩ := spv_no HS.out.right.2.2 HS.out.right.1.1 hd0 i
    rw [e1, e2]
    clear h hd0 n0 n1 i0 i1
    go_enter Tryz.func77, Tryz.ntmps77
    go_wp2_with (go_at_call 64; (with_reducible refine (shas_any _ _ c sts n _ (HS.out.up (Lw.below_alloc (Below.refl _ _) _)) N0.out N1.out).mono ?_); rintro e w' ⟨rfl, rfl⟩; rw [hd])
    go_ret2
    exact ⟨rfl, (by (repeat' (first | (with_reducible first | exact Below.refl _ _ | assumption | refine below_over ?_ _ _ | refine Lw.below_alloc ?_ _ | refine Below.drew ?_ | refine below_drewN ?_ _ | refine Below.setCell ?_ ?_ _) | go_size)))⟩
end Go.Proofs.YtkflggojiiebeaaGreat.Stk

namespace Go.Proofs.YtkflggojiiebeaaGreat.Qnt
open Go Go.RowKit Lw Grd Lin Con Shp Sk Exa Lev Stk Pcs Spn
set_option linter.unusedVariables false
set_option linter.unusedSimpArgs false
theorem blk_new {X : World} {n : Nat} {o : Obj} (h : X.heap.size = n) : (X.alloc o).heap[n]? = some o := by
  subst h
  exact heap_alloc_new X _
theorem blk_up {X Y : World} {b : Nat} {o : Obj} (h : X.heap[b]? = some o) (hb : Below X.heap.size X Y) : Y.heap[b]? = some o := by
  rw [hb.block b (Array.getElem?_eq_some_iff.1 h).1]
  exact h
theorem blk_alloc {X : World} {b : Nat} {o p : Obj} (h : X.heap[b]? = some o) : (X.alloc p).heap[b]? = some o := blk_up h (Lw.below_alloc (Below.refl _ _) _)
theorem blk_grow {X : World} {b : Nat} {o : Obj} {bs : Array Obj} {d : Nat} (h : X.heap[b]? = some o) : (grow X bs d).heap[b]? = some o := blk_up h (grow_below X bs d)
theorem blk_frozen {X : World} {b : Nat} {vs : Array Value} {e : TypeId} (h : X.heap[b]? = some (.cells vs e (0, 0))) (i : Nat) : X.frozen? ⟨b, i, none⟩ = false := by
  simp [World.frozen?, h]
end Go.Proofs.YtkflggojiiebeaaGreat.Qnt

namespace Go.Proofs.YtkflggojiiebeaaGreat.Stk
open Go Go.RowKit Lw Grd Lin Con Shp Sk Exa Lev Go.Shelf
set_option linter.unusedVariables false
set_option linter.unusedSimpArgs false
abbrev cfB (b : Nat) (c : Cfg) : Thing := boxT b 24 #[.int .i64 c.bt, .int .i64 c.rw, .int .i64 c.wd, .int .i64 c.md, .int .u64 c.sd]
set_option maxRecDepth 100000 in
set_option maxHeartbeats 2000000 in
theorem cs_new (c : Cfg) (w : World) (h : c.Ok) (hr : IsRight c) :
    Calls Tryz.prog 13 #[.agg #[.int .i64 c.bt, .int .i64 c.rw, .int .i64 c.wd, .int .i64 c.md, .int .u64 c.sd]] w fun e w' => ∃ (p : Addr) (F : Nat → Prop), e = .returned (.tuple #[.pointer (some p), .int .i64 0]) ∧ ST w' p F c (stsOf c []) ∧ (∀ k, F k → w.heap.size ≤ k) ∧ Below w.heap.size w w' := by
  have HO := Lib.hid h
  have HR := Lib.hid hr
  have hm : right c = true := decide_eq_true hr
  have hb1 := hr.1
  have hb2 := hr.2.1
  obtain ⟨j0, hj, hy0, hy1, hy2⟩ := info_parts lvs_info
  have HJ := Lib.hid hj
  have HB1 := Lib.hid ((HoldC.start0 (Below.refl _ w)).push (cfB w.heap.size c) (Lw.below_alloc (Below.refl _ _) _) (heap_alloc_new w _) (fun k hk => Nat.le_of_eq hk.symm) (cel_box (heap_alloc_new w _)))
  clear h hr hj
  go_enter Tryz.func13, Tryz.ntmps13
  go_wp2_with (go_at_call 43; (with_reducible refine (right_any c _ HO.out).mono ?_); rintro e w1 ⟨rfl, hb⟩; rw [hm]; have HV1 := Lib.hid (HB1.out.up hb); clear hb; have g0 := box_cell (HV1.out.i (t := cfB w.heap.size c) (by simp)) (i := 0) rfl; have g1 := box_cell (HV1.out.i (t := cfB w.heap.size c) (by simp)) (i := 1) rfl; have g2 := box_cell (HV1.out.i (t := cfB w.heap.size c) (by simp)) (i := 2) rfl; have g3 := box_cell (HV1.out.i (t := cfB w.heap.size c) (by simp)) (i := 3) rfl; have g4 := box_cell (HV1.out.i (t := cfB w.heap.size c) (by simp)) (i := 4) rfl; have q0 := cell_up g0 (Lw.below_alloc (Below.refl _ w1) (.cells #[.int .i64 c.bt, .int .i64 c.rw, .int .i64 c.wd, .int .i64 c.md, .int .u64 c.sd, .slice none 0 0] 105)))
  have HS := Lib.hid ((HV1.out.push (ownT w.heap.size 107 (.slice none 0 0) []) (Below.refl _ _) (own_nil _ _ _) (fun k hk => own_nilF _ _ hk) (cel_own (own_nil _ _ _))).push (skB w1.heap.size c (.slice none 0 0)) (Lw.below_alloc (Below.refl _ _) _) (heap_alloc_new w1 _) (fun k hk => Nat.le_of_eq hk.symm) (cel_box (heap_alloc_new w1 _)))
  clear g0 g1 g2 g3 g4 q0
  obtain ⟨b, hbq⟩ : ∃ b, w1.heap.size = b := ⟨_, rfl⟩
  rw [hbq] at HS ⊢
  clear hbq
  go_loopw [17] (fun i wr => ∃ (n : Nat) (hdr : Value) (vals : List Value) (ts : List Thing) (sts : List LS), (n : Int) ≤ c.bt + 1 ∧ i = .int .i64 n ∧ LRow elvT c vals ts sts ∧ sts.length = n ∧ (∀ j, j < n → sts[j]? = some (lsZero c j)) ∧ HoldC (fun _ => False) w wr (skB b c hdr :: ownT w.heap.size 107 hdr vals :: cfB w.heap.size c :: ts)) (fun i _ => (c.bt + 1).toNat - (intOf i).toNat)
  case atStart => exact ⟨0, .slice none 0 0, [], [], [], by omega, rfl, LRow.nil _ _, rfl, fun j hj => by omega, HS.out⟩
  case round =>
    obtain ⟨n, hdr, vals, ts, sts, hn, rfl, hrow, hsl, hsj, hv⟩ := hrel
    have HROW := Lib.hid hrow
    have HSL := Lib.hid hsl
    have HSJ := Lib.hid hsj
    have HV := Lib.hid hv
    have LV := Lib.hid (hrow.lv.trans hsl)
    have g0 := box_cell (hv.i (t := cfB w.heap.size c) (by simp)) (i := 0) rfl
    have g1 := box_cell (hv.i (t := cfB w.heap.size c) (by simp)) (i := 1) rfl
    have g2 := box_cell (hv.i (t := cfB w.heap.size c) (by simp)) (i := 2) rfl
    have g3 := box_cell (hv.i (t := cfB w.heap.size c) (by simp)) (i := 3) rfl
    have g4 := box_cell (hv.i (t := cfB w.heap.size c) (by simp)) (i := 4) rfl
    clear hrow hsl hsj hv
    by_cases hlt : (n : Int) < c.bt + 1
    · go_wp2_with (first
        | (go_at_call 44; (with_reducible refine (ev_new c n _ HO.out HR.out (by omega) (by omega)).mono ?_); rintro e w2 ⟨v, Q, rfl, hE, hQ, hb⟩; obtain ⟨ty, pv, rfl⟩ := elv_form hE; have HV2 := Lib.hid (HV.out.snoc (elvT (.iface ty (.pointer (some pv))) Q c n (lsZero c n)) hb hE hQ (cel_elv hE)); have x5 := box_cell (HV2.out.i (t := skB b c hdr) (by simp)) (i := 5) rfl; clear hb hE hQ)
        | (at_builtin; (refine app_val rfl _ _ 103 rfl w.heap.size 107 j0 .nilIface 16 lvs_u HJ.out hy0 hy1 hy2 rfl hdr n vals rfl (by have h7 := (HV2.out.up (Lw.below_alloc (Below.refl _ w2) (.cells #[.iface ty (.pointer (some pv))] 107))).i (t := ownT w.heap.size 107 hdr vals) (by simp); have h8 : World.ownsRow _ _ _ _ hdr vals.length vals := h7; rw [LV.out] at h8; exact h8) (.iface ty (.pointer (some pv))) w2.heap.size rfl (cell_one_new _ _ _) rfl (by unfold maxLen; omega) (by omega) (by have h9 := HV2.out.1.1.size; simp; omega) ?_); intro g6 cap6 w3 own6 grow6 hat6 hl6; have HV3 := Lib.hid (HoldC.app (fs := [skB b c hdr]) (HV2.out.up (Lw.below_alloc (Below.refl _ w2) (.cells #[.iface ty (.pointer (some pv))] 107))) (by rw [LV.out]; exact own6) grow6 hat6); have y5 := box_cell (HV3.out.i (t := skB b c hdr) (by simp)) (i := 5) rfl; have z5 : w3.frozen? ⟨b, 5, none⟩ = false := frozen_of_row w3 b 5 _ _ (HV3.out.i (t := skB b c hdr) (by simp))))
      go_roundw
      case rel =>
        refine ⟨n + 1, .slice (some ⟨g6, 0, none⟩) (n + 1) cap6, vals ++ [.iface ty (.pointer (some pv))], ts ++ [elvT (.iface ty (.pointer (some pv))) Q c n (lsZero c n)], sts ++ [lsZero c n], by omega, by go_num, HROW.out.snoc HSL.out _ Q _, by simp [HSL.out], fun j hj => ?_, ?_⟩
        · by_cases hj2 : j < n
          · rw [List.getElem?_append_left (by rw [HSL.out]; exact hj2)]
            exact HSJ.out j hj2
          · obtain rfl : j = n := by omega
            rw [List.getElem?_append_right (by rw [HSL.out]; exact Nat.le_refl _), HSL.out, Nat.sub_self]
            rfl
        · have h9 := HoldC.store (fs := []) HV3.out (.slice (some ⟨g6, 0, none⟩) (vals.length + 1) cap6)
          rw [LV.out] at h9
          exact h9
      case measure => simp [intOf]; omega
    · go_wp2
      go_ret2
      have he : n = c.bt.toNat + 1 := by omega
      subst he
      obtain ⟨s1, s2, s3⟩ := st_of HR.out HO.out HSL.out HROW.out (HV.out.sub (.cons_cons _ (.cons_cons _ (.cons _ (List.Sublist.refl _)))))
      have e9 : sts = stsOf c [] := List.ext_getElem? (fun j => by
        by_cases hj : j < c.bt.toNat + 1
        · rw [HSJ.out j hj, stsOf_get hj, stOf_nil]
        · rw [List.getElem?_eq_none (by rw [HSL.out]; omega), List.getElem?_eq_none (by rw [stsOf_len]; omega)])
      rw [e9] at s1
      exact ⟨_, rfl, _, s1, fun k hk => (s3 k hk).elim (fun h => h.elim) id, s2.below⟩
end Go.Proofs.YtkflggojiiebeaaGreat.Stk

namespace Go.Proofs.YtkflggojiiebeaaGreat.Stk
open Go Go.RowKit Lw Grd Lin Con Shp Sk Exa Lev Go.Shelf
set_option linter.unusedVariables false
set_option linter.unusedSimpArgs false
attribute [local go_sem] Oper.semAt_some
/-- New levels as they came. -/
structure NRow (c : Cfg) (sts : List LS) (N : Nat) (pre : List (Lof N)) (vs : List Value) (ts : List Thing) : Prop where
  lv : vs.length = pre.length
  lt : ts.length = pre.length
  each : ∀ (j : Nat) (x : Lof N), pre[j]? = some x → ∃ st v Q, sts[x.1]? = some st ∧ vs[j]? = some v ∧ ts[j]? = some (elvT v Q c (x.1 : Int) st)
theorem NRow.nil (c : Cfg) (sts : List LS) (N : Nat) : NRow c sts N [] [] [] := ⟨rfl, rfl, fun j x h => by simp at h⟩
theorem NRow.row {c : Cfg} {sts : List LS} {N : Nat} {pre : List (Lof N)} {vs : List Value} {ts : List Thing} (h : NRow c sts N pre vs ts) (hup : UpTo pre) (hl : pre.length = sts.length) : LRow elvT c vs ts sts := by
  refine ⟨h.lv.trans hl, h.lt.trans hl, fun j st hj => ?_⟩
  have hj2 := (List.getElem?_eq_some_iff.1 hj).1
  obtain ⟨x, hx⟩ : ∃ x, pre[j]? = some x := ⟨_, List.getElem?_eq_getElem (by omega)⟩
  have hx2 : x.1 = j := by
    have h3 : (pre.map (fun x => x.1))[j]? = some x.1 := by rw [List.getElem?_map, hx]; rfl
    rw [hup, List.getElem?_range (by omega)] at h3
    injection h3 with h3
    exact h3.symm
  obtain ⟨st2, v, Q, e1, e2, e3⟩ := h.each j x hx
  rw [hx2, hj] at e1
  injection e1 with e1
  subst e1
  rw [hx2] at e3
  exact ⟨v, Q, e2, e3⟩
end Go.Proofs.YtkflggojiiebeaaGreat.Stk

namespace Go.Proofs.YtkflggojiiebeaaGreat.Stk
open Go Go.RowKit Lw Grd Lin Con Shp Sk Exa Lev Go.Shelf
set_option linter.unusedVariables false
set_option linter.unusedSimpArgs false
theorem cs_upd (p : Addr) (F : Nat → Prop) (c : Cfg) (sts : List LS) (k d : Int) (w : World) (h : ST w p F c sts) (k0 : 0 ≤ k) (k1 : k ≤ 18446744073709551615) (d0 : -9223372036854775808 ≤ d) (d1 : d ≤ 9223372036854775807) :
    Calls Tryz.prog 15 #[.pointer (some p), .int .u64 k, .int .i64 d] w fun e w' => e = .returned (.int .i64 (sucode c sts k d)) ∧ ∃ F', ST w' p F' c (sures c sts k d) ∧ Kept F w w' ∧ (∀ q, F' q → F q ∨ w.heap.size ≤ q) := by
  have HS := Lib.hid h
  obtain ⟨hr, hc, hl, b, B0, hdr, vals, ts, rfl, hrow, hI, rfl⟩ := h
  have HH := Lib.hid (st_hold hrow hI)
  have HO := Lib.hid hc
  have HR := Lib.hid hr
  have HL := Lib.hid hl
  have HROW := Lib.hid hrow
  have K0 := Lib.hid k0
  have K1 := Lib.hid k1
  have D0 := Lib.hid d0
  have D1 := Lib.hid d1
  have HB := Lib.hid (HH.out.push (boxT w.heap.size 2 #[.int .i64 d]) (Lw.below_alloc (Below.refl _ _) _) (heap_alloc_new w _) (fun k hk => Nat.le_of_eq hk.symm) (cel_box (heap_alloc_new w _)))
  have c0 := box_cell (HB.out.i (t := skB b c hdr) (by simp)) (i := 0) rfl
  have c1 := box_cell (HB.out.i (t := skB b c hdr) (by simp)) (i := 1) rfl
  have c2 := box_cell (HB.out.i (t := skB b c hdr) (by simp)) (i := 2) rfl
  have c3 := box_cell (HB.out.i (t := skB b c hdr) (by simp)) (i := 3) rfl
  have c4 := box_cell (HB.out.i (t := skB b c hdr) (by simp)) (i := 4) rfl
  by_cases hk : keys c 0 ≤ k
  · have e1 : sucode c sts k d = 2 := if_pos hk
    have e2 : sures c sts k d = sts := by unfold sures; rw [e1]; exact if_neg (by decide)
    rw [e1, e2]
    clear e1 e2 hI hrow hl hr hc k0 k1 d0 d1
    go_enter Tryz.func15, Tryz.ntmps15
    go_wp2_with (go_at_call 46; (with_reducible refine (keys_any c 0 _ HO.out (by omega) (by omega)).mono ?_); rintro e w1 ⟨rfl, hb⟩)
    go_ret
    have hb3 : Below w.heap.size w w1 := (Lw.below_alloc (Below.refl _ w) (.cells #[.int .i64 d] 2)).trans (hb.mono (by simp))
    exact ⟨rfl, _, HS.out.up hb3, Kept.of_below hb3, fun q hq => .inl hq⟩
  · have hk2 : k < keys c 0 := by omega
    have HK := Lib.hid hk2
    have hm0 : ¬ (c.md = 2 ∧ d < 0) ∨ ers c k d 0 sts = 3 := by
      by_cases hm : c.md = 2 ∧ d < 0
      · obtain ⟨st, v, Q, e1, e2, e3⟩ := hrow.at (j := 0) (by omega)
        exact .inr (ers_mode hr k0 hk2 hm e1 (show ELV w v Q c ((0 : Nat) : Int) st from HH.out.i (t := elvT v Q c ((0 : Nat) : Int) st) (List.mem_cons_of_mem _ (List.mem_cons_of_mem _ (List.mem_of_getElem? e3)))))
      · exact .inl hm
    have e1 : sucode c sts k d = ers c k d 0 sts := by
      unfold sucode
      rw [if_neg hk]
      by_cases hm : c.md = 2 ∧ d < 0
      · rw [if_pos hm]
        exact (hm0.resolve_left (fun g => g hm)).symm
      · rw [if_neg hm]
    clear hm0
    by_cases hz : ers c k d 0 sts = 0
    · have e2 : sures c sts k d = rss c k d 0 sts := by unfold sures; rw [e1, if_pos hz]
      rw [e1, e2, hz]
      have HZ := Lib.hid hz
      clear e1 e2 hI hrow hl hr hc k0 k1 d0 d1 hz hk2
      go_enter Tryz.func15, Tryz.ntmps15
      go_wp2_with (first
        | (go_at_call 46; (with_reducible refine (keys_any c 0 _ HO.out (by omega) (by omega)).mono ?_); rintro e w1 ⟨rfl, hb⟩; have HV1 := Lib.hid (HB.out.up hb); clear hb)
        | (go_at_call 48; (with_reducible refine (sabove_any ⟨b, 0, none⟩ k _).mono ?_); rintro e w2 ⟨rfl, rfl⟩)
        | (go_at_call 47; (with_reducible refine (chk_first c HR.out HO.out k d K0.out K1.out HK.out D0.out D1.out sts HL.out w.heap.size b B0 hdr vals ts HROW.out _ _ _ HV1.out).mono ?_); rintro e w3 ⟨rfl, hv3⟩; have HV3 := Lib.hid hv3; clear hv3; rw [HZ.out])
        | (go_at_call 47; (with_reducible refine (upd_first c HR.out HO.out k d K0.out K1.out HK.out D0.out D1.out sts HL.out HZ.out w.heap.size b B0 hdr vals ts HROW.out _ _ _ HV3.out).mono ?_); rintro e w4 ⟨rfl, ts4, hrow4, hv4⟩; have HV4 := Lib.hid hv4; have HR4 := Lib.hid hrow4; clear hv4 hrow4))
      go_ret
      obtain ⟨s1, s2, s3⟩ := st_of HR.out HO.out (by rw [rss_len]; exact HL.out) HR4.out HV4.out.drop
      exact ⟨rfl, _, s1, s2, s3⟩
    · have e2 : sures c sts k d = sts := by unfold sures; rw [e1]; exact if_neg hz
      rw [e1, e2]
      obtain ⟨E, hE⟩ : ∃ E, ers c k d 0 sts = E := ⟨_, rfl⟩
      have HE := Lib.hid hE
      rw [hE] at hz ⊢
      clear e1 e2 hI hrow hl hr hc k0 k1 d0 d1 hE hk2
      go_enter Tryz.func15, Tryz.ntmps15
      go_wp2_with (first
        | (go_at_call 46; (with_reducible refine (keys_any c 0 _ HO.out (by omega) (by omega)).mono ?_); rintro e w1 ⟨rfl, hb⟩; have HV1 := Lib.hid (HB.out.up hb); clear hb)
        | (go_at_call 48; (with_reducible refine (sabove_any ⟨b, 0, none⟩ k _).mono ?_); rintro e w2 ⟨rfl, rfl⟩)
        | (go_at_call 47; (with_reducible refine (chk_first c HR.out HO.out k d K0.out K1.out HK.out D0.out D1.out sts HL.out w.heap.size b B0 hdr vals ts HROW.out _ _ _ HV1.out).mono ?_); rintro e w3 ⟨rfl, hv3⟩; have HV3 := Lib.hid hv3; clear hv3; rw [HE.out]))
      go_ret
      obtain ⟨s1, s2, s3⟩ := st_of HR.out HO.out HL.out HROW.out HV3.out.drop
      exact ⟨rfl, _, s1, s2, s3⟩
end Go.Proofs.YtkflggojiiebeaaGreat.Stk

namespace Go.Proofs.YtkflggojiiebeaaGreat.Hvy
open Go Go.RowKit Lw Grd Lin Con Shp Sk Exa Lev Stk Pcs Spn Qnt
set_option linter.unusedVariables false
set_option linter.unusedSimpArgs false
set_option linter.unusedSimpArgs false
theorem cfd_info : (Tryz.prog.info? 85).map (fun i => (i.zero, i.size, i.bytes)) = some (some (.agg #[.int .i64 0, .int .u64 0, .int .i64 0]), 3, 24) := by kernel_rfl
theorem cfds_u : Tryz.prog.underlying 39 = some (.slice 85) := by kernel_rfl
theorem ints_level (L : Nat) (l : List Nat) (t : Nat) {i : Nat} (h : l[t]? = some i) : (ints (l.map (fun i => (L, i))))[t]? = some ((L : Int), (i : Int)) := by
  unfold ints
  rw [List.map_map, List.getElem?_map, h]
  rfl
theorem tellQ_next {pt : Nat → Int → Int} {least : Int} {L t i : Nat} {l : List Nat} (h : l[t]? = some i) : (least ≤ pt L ((i : Nat) : Int) → tellQ pt least L (l.take (t + 1)) = tellQ pt least L (l.take t) ++ [((L, i), pt L ((i : Nat) : Int))]) ∧ (¬ least ≤ pt L ((i : Nat) : Int) → tellQ pt least L (l.take (t + 1)) = tellQ pt least L (l.take t)) := by
  rw [take_next h, tellQ_app]
  exact ⟨fun g => by rw [tellQ_yes g], fun g => by rw [tellQ_no g, List.append_nil]⟩
theorem tellQ_take (pt : Nat → Int → Int) (least : Int) (L t : Nat) (l : List Nat) : (tellQ pt least L (l.take t)).length ≤ t := by
  unfold tellQ
  rw [List.length_map]
  have h1 := List.length_filter_le (big pt least L) (l.take t)
  rw [List.length_take] at h1
  omega
theorem enc_one3 (a b v : Int) : ∀ u ∈ ([.int .i64 a, .int .u64 b, .int .i64 v] : List Value), u.oneCell' = true := by
  intro u hu
  simp at hu
  rcases hu with rfl | rfl | rfl <;> rfl
theorem cbox2r {w : World} {b : Nat} {e : TypeId} {v0 v1 : Value} (h : (boxT b e #[v0, v1]).I w) : w.cell? ⟨b, 0, none⟩ = some v0 ∧ w.cell? ⟨b, 1, none⟩ = some v1 := ⟨box_cell h rfl, box_cell h rfl⟩
theorem turn0K {w0 w w' : World} {B K n g m cap : Nat} {e : TypeId} {v : Value} {cs ds : List Value} {ts : List Thing} (h : Have w0 w (ownK B e K v n cs :: ts)) (hown : w'.ownsRow B e K (.slice (some ⟨g, 0, none⟩) m cap) m ds) (hg : w.grownBy w' v.ownBlock) (hat : v.ownBlock = some g ∨ g = w.heap.size) : Have w0 w' (ownK B e K (.slice (some ⟨g, 0, none⟩) m cap) m ds :: ts) := h.turn0 _ hown (kept_grownK hg) (okF hat)
theorem turnBK {w0 w w' : World} {t0 : Thing} {B K n g m cap : Nat} {e : TypeId} {v : Value} {cs ds : List Value} {ts : List Thing} (h : Have w0 w (t0 :: ownK B e K v n cs :: ts)) (hown : w'.ownsRow B e K (.slice (some ⟨g, 0, none⟩) m cap) m ds) (hg : w.grownBy w' v.ownBlock) (hat : v.ownBlock = some g ∨ g = w.heap.size) : Have w0 w' (t0 :: ownK B e K (.slice (some ⟨g, 0, none⟩) m cap) m ds :: ts) := h.turn1 _ hown (kept_grownK hg) (okF hat)
theorem own_formK {w : World} {base : Nat} {e : TypeId} {K : Nat} {v : Value} {n : Nat} {xs : List Value} (h : w.ownsRow base e K v n xs) : True ∧ ∃ A cap, v = .slice A n cap := by
  refine ⟨trivial, ?_⟩
  rcases h.2 with ⟨h1, h2⟩ | ⟨g, cap, cur, h1, -⟩
  · exact ⟨none, 0, by rw [h2, h1]⟩
  · exact ⟨_, _, h1⟩
set_option maxRecDepth 100000 in
set_option maxHeartbeats 4000000 in
theorem much_any (p : Addr) (F : Nat → Prop) (c : Cfg) (sts : List LS) (least : Int) (LV : Nat) (l : List Nat) (A : Option Addr) (n cap : Nat) (w : World) (h : ST w p F c sts) (hrow : (pcT A n cap (ints (l.map (fun i => (LV, i))))).I w) (hLV : LV ≤ 59) (hb : ∀ i ∈ l, i < 576460752303423488) (hn : n ≤ 4096) :
    Calls Tryz.prog 54 #[.pointer (some p), .slice A n cap, .int .i64 least] w fun e w' => ∃ (A2 : Option Addr) (n2 cap2 : Nat), e = .returned (.slice A2 n2 cap2) ∧ w'.ownsRow w.heap.size 85 3 (.slice A2 n2 cap2) n2 ((tellQ (fun L i => spV c sts (L : Int) i) least LV l).flatMap encF) ∧ n2 = (tellQ (fun L i => spV c sts (L : Int) i) least LV l).length ∧ (n2 = 0 → A2 = none ∧ cap2 = 0) ∧ Below w.heap.size w w' := by
  have hlen : l.length = n := by have h1 := (pcI hrow).len; rw [ints_len, List.length_map] at h1; exact h1
  have CPT := Lib.hid (fun n i w hs n0 n1 i0 i1 => cs_point p F c sts n i w hs n0 n1 i0 i1)
  have HD := Lib.hid h
  have HR := Lib.hid hrow
  have HB := Lib.hid hb
  obtain ⟨j0, hj_, hy0, hy1, hy2⟩ := info_parts cfd_info
  have HLEN := Lib.hid hlen
  have HTK := Lib.hid (fun t => tellQ_take (fun L i => spV c sts (L : Int) i) least LV t l)
  clear h hrow hb hlen
  go_enter Tryz.func54, Tryz.ntmps54
  go_wp2
  go_loopw [7, 14] (fun fv iv wr => ∃ (t : Nat), t ≤ n ∧ iv = .int .i64 (t : Int) ∧ ((tellQ (fun L i => spV c sts (L : Int) i) least LV (l.take t)).length = 0 → fv = .slice none 0 0) ∧ Have w wr [ownK w.heap.size 85 3 fv (tellQ (fun L i => spV c sts (L : Int) i) least LV (l.take t)).length ((tellQ (fun L i => spV c sts (L : Int) i) least LV (l.take t)).flatMap encF)]) (fun _ iv _ => 5000 - (intOf iv).toNat)
  case atStart => exact ⟨0, Nat.zero_le _, rfl, fun _ => rfl, (Have.nil w).push (ownK w.heap.size 85 3 (.slice none 0 0) 0 []) (Below.refl _ _) (World.ownsRow_nil w _ _ _) (fun k hk => by cases hk)⟩
  case round =>
    obtain ⟨t, ht, rfl, hnil, hv⟩ := hrel
    have HVr := Lib.hid hv
    have HDR := Lib.hid (HD.out.up hv.below)
    have HRR := Lib.hid ((pcI HR.out).up hv.below)
    clear hv
    obtain ⟨NO, hNO⟩ : ∃ n, (tellQ (fun L i => spV c sts (L : Int) i) least LV (l.take t)).length = n := ⟨_, rfl⟩
    have htk := HTK.out t
    rw [hNO] at HVr hnil htk
    have HNO := Lib.hid hNO
    have HNIL := Lib.hid hnil
    clear hNO hnil
    by_cases hmore : t < n
    · have lt0 : (0 : Int) ≤ (t : Int) := by omega
      have lt1 : (t : Int) < (n : Int) := by omega
      obtain ⟨ix, hix⟩ : ∃ ix, l[t]? = some ix := ⟨_, List.getElem?_eq_getElem (by have := HLEN.out; omega)⟩
      have hixb := HB.out ix (List.mem_of_getElem? hix)
      obtain ⟨aa, g, o, rfl, hadd, r0, r1, -, -⟩ := HRR.out.at (ints_level LV l t hix)
      simp only at r0 r1
      have HNX := Lib.hid (tellQ_next (pt := (fun L i => spV c sts (L : Int) i)) (least := least) (L := LV) hix)
      have CPJ := Lib.hid (fun w hs => CPT.out (LV : Int) (ix : Int) w hs (by omega) (by omega) (by omega) (by omega))
      obtain ⟨VV, hVV⟩ : ∃ v, spV c sts (LV : Int) (ix : Int) = v := ⟨_, rfl⟩
      obtain ⟨VC, hVC⟩ : ∃ v, spC c sts (LV : Int) (ix : Int) = v := ⟨_, rfl⟩
      rw [hVV, hVC] at CPJ
      rw [hVV] at HNX
      have HIX := Lib.hid hix
      clear hVV hVC hix
      by_cases hV : least ≤ VV
      · have g1 : decide (least ≤ VV) = true := decide_eq_true hV
        have HEQ := Lib.hid (HNX.out.1 hV)
        clear HNX
        go_upto_region 7 with (go_at_call 77; (with_reducible refine (CPJ.out _ (HDR.out.up (Lw.below_alloc (Below.refl _ _) _))).mono ?_); rintro e w5 ⟨rfl, hb⟩; have HVb := Lib.hid (HVr.out.push (boxT wr.heap.size 82 #[.int .i64 (LV : Int), .int .u64 (ix : Int)]) (Lw.below_alloc (Below.refl _ _) _) (heap_alloc_new wr _) (fun k hk => Nat.le_of_eq hk.symm)); have HV5 := Lib.hid (HVb.out.up hb); clear hb; obtain ⟨y0, y1⟩ := cbox2r HV5.out.i0)
        go_wp2_with (at_builtin; go_must (refine wpList_append_lies _ rfl _ _ 39 rfl w.heap.size 85 j0 (.agg #[.int .i64 0, .int .u64 0, .int .i64 0]) 3 24 cfds_u hj_ hy0 hy1 hy2 rfl (by decide) _ _ _ rfl ((okI HV5.out.i1).alloc _) ⟨_, 0, none⟩ 1 1 [.int .i64 (LV : Int), .int .u64 (ix : Int), .int .i64 VV] rfl rfl (World.news_of_block (heap_alloc_new w5 _)) (enc_one3 _ _ _) (by decide) (by unfold maxLen; omega) (by omega) (by simp; have := HV5.out.below.size; omega) _ rfl ?_); intro g7 cap7 w7 hown7 hgrow7 hat7 hlt7)
        have HVa := Lib.hid (HV5.out.up (Lw.below_alloc (Below.refl _ w5) (.cells #[.int .i64 (LV : Int), .int .u64 (ix : Int), .int .i64 VV] 85)))
        have HV7 := Lib.hid (turnBK HVa.out hown7 hgrow7 hat7)
        go_roundw
        case rel => exact ⟨t + 1, by omega, by go_num, fun h => by rw [HEQ.out, List.length_append] at h; simp at h, by rw [HEQ.out, List.length_append, HNO.out, flat_snoc]; exact HV7.out.drop_0.up (by repeat' (first | (with_reducible first | exact Below.refl _ _ | assumption | refine below_over ?_ _ _ | refine Lw.below_alloc ?_ _ | refine Below.drew ?_ | refine below_drewN ?_ _ | refine Below.setCell ?_ ?_ _) | go_size))⟩
        case measure => simp [intOf]; omega
      · have g1 : decide (least ≤ VV) = false := decide_eq_false hV
        have HEQ := Lib.hid (HNX.out.2 hV)
        clear HNX
        go_wp2_with (go_at_call 77; (with_reducible refine (CPJ.out _ (HDR.out.up (Lw.below_alloc (Below.refl _ _) _))).mono ?_); rintro e w5 ⟨rfl, hb⟩; have HVb := Lib.hid (HVr.out.push (boxT wr.heap.size 82 #[.int .i64 (LV : Int), .int .u64 (ix : Int)]) (Lw.below_alloc (Below.refl _ _) _) (heap_alloc_new wr _) (fun k hk => Nat.le_of_eq hk.symm)); have HV5 := Lib.hid (HVb.out.up hb); clear hb; obtain ⟨y0, y1⟩ := cbox2r HV5.out.i0)
        go_roundw
        case rel => exact ⟨t + 1, by omega, by go_num, by rw [HEQ.out, HNO.out]; exact HNIL.out, by rw [HEQ.out, HNO.out]; exact HV5.out.drop_0.up (by repeat' (first | (with_reducible first | exact Below.refl _ _ | assumption | refine below_over ?_ _ _ | refine Lw.below_alloc ?_ _ | refine Below.drew ?_ | refine below_drewN ?_ _ | refine Below.setCell ?_ ?_ _) | go_size))⟩
        case measure => simp [intOf]; omega
    · have lt1 : ¬ (t : Int) < (n : Int) := by omega
      have et : l.take t = l := List.take_of_length_le (by have := HLEN.out; omega)
      rw [et] at HVr HNO
      go_wp2
      go_ret
      obtain ⟨hz, hf⟩ := own_formK (okI HVr.out.i0)
      obtain ⟨A2, cap2, rfl⟩ := hf
      exact ⟨A2, NO, cap2, rfl, okI HVr.out.i0, HNO.out.symm, fun e => by have h3 := HNIL.out e; injection h3 with h4 h5 h6; exact ⟨h4, h6⟩, HVr.out.below⟩
end Go.Proofs.YtkflggojiiebeaaGreat.Hvy

namespace Go.Proofs.YtkflggojiiebeaaGreat.Hvy
open Go Go.RowKit Lw Grd Lin Con Shp Sk Exa Lev Stk Pcs Spn Qnt
set_option linter.unusedVariables false
set_option linter.unusedSimpArgs false
set_option linter.unusedSimpArgs false
/-- The numbers of the halves. -/
def hvs (qs : List ((Nat × Nat) × Int)) : List Nat := qs.flatMap (fun q => [2 * q.1.2, 2 * q.1.2 + 1])
theorem hvs_next {qs : List ((Nat × Nat) × Int)} {t : Nat} {q : (Nat × Nat) × Int} (h : qs[t]? = some q) : hvs (qs.take (t + 1)) = hvs (qs.take t) ++ [2 * q.1.2, 2 * q.1.2 + 1] := by
  unfold hvs
  rw [take_next h, List.flatMap_append]
  simp
theorem hvs_len : ∀ qs : List ((Nat × Nat) × Int), (hvs qs).length = 2 * qs.length
  | [] => rfl
  | q :: qs => by
    have ih := hvs_len qs
    unfold hvs at ih ⊢
    rw [List.flatMap_cons, List.length_append, ih]
    simp
    omega
theorem alloc2_new (w : World) (a b c : Obj) : (((w.alloc a).alloc b).alloc c).heap[w.heap.size + 1 + 1]? = some c := by
  have h := heap_alloc_new ((w.alloc a).alloc b) c
  have e : ((w.alloc a).alloc b).heap.size = w.heap.size + 1 + 1 := by simp
  rw [e] at h
  exact h
theorem hvs_tell (pt : Nat → Int → Int) (least : Int) (L : Nat) (l : List Nat) : hvs (tellQ pt least L l) = halvesQ pt least L l := by
  unfold hvs tellQ halvesQ
  rw [List.flatMap_map]
theorem own_pcs2 (l : List (Nat × Nat)) (p q : Nat × Nat) : flatP (ints (l ++ [p, q])) = flatP (ints l) ++ [.int .i64 (p.1 : Int), .int .u64 (p.2 : Int), .int .i64 (q.1 : Int), .int .u64 (q.2 : Int)] := by
  have e : l ++ [p, q] = (l ++ [p]) ++ [q] := by simp
  rw [e, ints_app, ints_app]
  show flatP ((ints l ++ [((p.1 : Int), (p.2 : Int))]) ++ [((q.1 : Int), (q.2 : Int))]) = _
  rw [flatP_snoc, flatP_snoc, List.append_assoc]
  rfl
theorem cpc_two (a b x y : Int) : ∀ u ∈ ([.int .i64 a, .int .u64 b, .int .i64 x, .int .u64 y] : List Value), u.oneCell' = true := by
  intro u hu
  simp at hu
  rcases hu with rfl | rfl | rfl | rfl <;> rfl
theorem isP_nat {BB LM ix : Nat} (h1 : BB ≤ 59) (h2 : LM ≤ BB) (h0 : 1 ≤ BB) (h3 : ix < 2 ^ (BB - LM)) : isP (BB : Int) (LM : Int) (ix : Int) = true := by
  have e : ((BB : Int) - (LM : Int)).toNat = BB - LM := by omega
  refine decide_eq_true ⟨by omega, by omega, by omega, by omega, ?_⟩
  rw [e]
  unfold p2
  exact Int.ofNat_lt.2 h3
theorem chalf_nat (BB LM ix : Nat) (w : World) (h1 : BB ≤ 59) (h2 : LM + 1 ≤ BB) (h3 : ix < 2 ^ (BB - (LM + 1))) :
    Calls Tryz.prog 95 #[.int .i64 (BB : Int), .agg #[.int .i64 ((LM + 1 : Nat) : Int), .int .u64 (ix : Int)]] w fun e w' => e = .returned (.tuple #[.agg #[.int .i64 (LM : Int), .int .u64 ((2 * ix : Nat) : Int)], .agg #[.int .i64 (LM : Int), .int .u64 (((2 * ix : Nat) : Int) + 1)], .bool true]) ∧ Below w.heap.size w w' := by
  have h4 : 2 ^ (BB - (LM + 1)) ≤ 2 ^ 59 := Nat.pow_le_pow_right (by omega) (by omega)
  have e59 : (2 : Nat) ^ 59 = 576460752303423488 := rfl
  have hp : isP (BB : Int) ((LM + 1 : Nat) : Int) (ix : Int) = true := isP_nat h1 h2 (by omega) h3
  have h := chalves_any (BB : Int) ((LM + 1 : Nat) : Int) (ix : Int) w (by omega) (by omega) (by omega) (by omega) (by omega) (by omega)
  have hb : haB (BB : Int) ((LM + 1 : Nat) : Int) (ix : Int) = true := by unfold haB; rw [hp, decide_eq_true (by omega)]; rfl
  have e1 : haL (BB : Int) ((LM + 1 : Nat) : Int) (ix : Int) = (LM : Int) := by unfold haL; rw [if_pos hb]; omega
  have e2 : haX (BB : Int) ((LM + 1 : Nat) : Int) (ix : Int) = ((2 * ix : Nat) : Int) := by unfold haX; rw [if_pos hb]; omega
  have e3 : haY (BB : Int) ((LM + 1 : Nat) : Int) (ix : Int) = ((2 * ix : Nat) : Int) + 1 := by unfold haY; rw [if_pos hb]; omega
  rw [hb, e1, e2, e3] at h
  exact h
set_option maxRecDepth 100000 in
set_option maxHeartbeats 4000000 in
theorem halves_yes (BB LM : Nat) (qs : List ((Nat × Nat) × Int)) (A : Option Addr) (n cap : Nat) (w : World) (hrow : (stRowT 3 encF A n cap qs).I w) (hB : BB ≤ 59) (hL : LM + 1 ≤ BB) (hq : ∀ q ∈ qs, q.1.1 = LM + 1 ∧ q.1.2 < 2 ^ (BB - (LM + 1))) (hn : n ≤ 4096) :
    Calls Tryz.prog 55 #[.int .i64 (BB : Int), .slice A n cap] w fun e w' => ∃ (A2 : Option Addr) (n2 cap2 : Nat), e = .returned (.slice A2 n2 cap2) ∧ w'.ownsRow w.heap.size 82 2 (.slice A2 n2 cap2) n2 (flatP (ints ((hvs qs).map (fun i => (LM, i))))) ∧ n2 = (hvs qs).length ∧ Below w.heap.size w w' := by
  have hlen : qs.length = n := (strI hrow).len
  have HR := Lib.hid hrow
  have HQ := Lib.hid hq
  obtain ⟨i0, hi_, hz0, hz1, hz2⟩ := info_parts pc_info
  have HLEN := Lib.hid hlen
  have HBL := Lib.hid (And.intro hB hL)
  clear hrow hlen hq hB hL
  go_enter Tryz.func55, Tryz.ntmps55
  go_wp2
  go_loopw [5, 13] (fun fv iv wr => ∃ (t : Nat), t ≤ n ∧ iv = .int .i64 (t : Int) ∧ Have w wr [ownK w.heap.size 82 2 fv (2 * t) (flatP (ints ((hvs (qs.take t)).map (fun i => (LM, i)))))]) (fun _ iv _ => 5000 - (intOf iv).toNat)
  case atStart => exact ⟨0, Nat.zero_le _, rfl, (Have.nil w).push (ownK w.heap.size 82 2 (.slice none 0 0) 0 []) (Below.refl _ _) (World.ownsRow_nil w _ _ _) (fun k hk => by cases hk)⟩
  case round =>
    obtain ⟨t, ht, rfl, hv⟩ := hrel
    have HVr := Lib.hid hv
    have HRR := Lib.hid ((strI HR.out).up hv.below)
    clear hv
    by_cases hmore : t < n
    · have lt0 : (0 : Int) ≤ (t : Int) := by omega
      have lt1 : (t : Int) < (n : Int) := by omega
      obtain ⟨q, hqx⟩ : ∃ q, qs[t]? = some q := ⟨_, List.getElem?_eq_getElem (by have := HLEN.out; omega)⟩
      obtain ⟨hq1, hq2⟩ := HQ.out q (List.mem_of_getElem? hqx)
      have HNX := Lib.hid (hvs_next hqx)
      obtain ⟨aa, g, o, rfl, hadd, hat⟩ := HRR.out.at hqx (v0 := .int .i64 (q.1.1 : Int)) rfl
      have r0 := hat 0 (.int .i64 (q.1.1 : Int)) rfl
      have r1 := hat 1 (.int .u64 (q.1.2 : Int)) rfl
      have r2 := hat 2 (.int .i64 q.2) rfl
      rw [Nat.add_zero] at r0
      clear hat
      rw [hq1] at r0
      obtain ⟨ix, hix⟩ : ∃ ix, q.1.2 = ix := ⟨_, rfl⟩
      obtain ⟨VV, hVV⟩ : ∃ v, q.2 = v := ⟨_, rfl⟩
      obtain ⟨LV, hLV⟩ : ∃ v, LM + 1 = v := ⟨_, rfl⟩
      rw [hix] at r1 HNX hq2
      rw [hVV] at r2
      rw [hLV] at r0
      obtain ⟨I2, hI2⟩ : ∃ v, 2 * ix = v := ⟨_, rfl⟩
      rw [hI2] at HNX
      have HCH : Hid (∀ w, Calls Tryz.prog 95 #[.int .i64 (BB : Int), .agg #[.int .i64 (LV : Int), .int .u64 (ix : Int)]] w fun e w' => e = .returned (.tuple #[.agg #[.int .i64 (LM : Int), .int .u64 (I2 : Int)], .agg #[.int .i64 (LM : Int), .int .u64 ((I2 : Int) + 1)], .bool true]) ∧ Below w.heap.size w w') := Lib.hid (fun w => by
        have h1 := HBL.out.1
        have h2 := HBL.out.2
        have h3 := chalf_nat BB LM ix w h1 h2 hq2
        rw [← hLV, ← hI2]
        exact h3)
      clear hq1 hq2 hix hVV hLV hI2 hqx
      go_upto_region 7 with (go_at_call 95; (with_reducible refine (HCH.out _).mono ?_); rintro e w5 ⟨rfl, hb⟩; have HVx := Lib.hid (HVr.out.up (Lw.below_alloc (Below.refl _ _) (.cells #[.int .i64 (LV : Int), .int .u64 (ix : Int), .int .i64 VV] 85))); have HV5 := Lib.hid (HVx.out.up hb); clear hb)
      have HVb := Lib.hid (HV5.out.up (Lw.below_alloc (Lw.below_alloc (Lw.below_alloc (Below.refl _ _) (.cells #[.int .i64 (LM : Int), .int .u64 (I2 : Int)] 82)) (.cells #[.int .i64 (LM : Int), .int .u64 ((I2 : Int) + 1)] 82)) (.cells #[.int .i64 (LM : Int), .int .u64 (I2 : Int), .int .i64 (LM : Int), .int .u64 ((I2 : Int) + 1)] 82)))
      go_wp2_with (at_builtin; go_must (refine wpList_append_lies _ rfl _ _ 118 rfl w.heap.size 82 i0 (.agg #[.int .i64 0, .int .u64 0]) 2 16 pcs_u hi_ hz0 hz1 hz2 rfl (by decide) _ _ _ rfl (okI HVb.out.i0) ⟨_, 0, none⟩ 2 2 [.int .i64 (LM : Int), .int .u64 (I2 : Int), .int .i64 (LM : Int), .int .u64 ((I2 : Int) + 1)] rfl rfl (World.news_of_block (alloc2_new w5 _ _ _)) (cpc_two _ _ _ _) (by decide) (by unfold maxLen; omega) (by omega) (by have := HVb.out.below.size; exact this) _ rfl ?_); intro g7 cap7 w7 hown7 hgrow7 hat7 hlt7)
      have HV7 := Lib.hid (turn0K HVb.out hown7 hgrow7 hat7)
      go_roundw
      case rel => exact ⟨t + 1, by omega, by go_num, by rw [HNX.out, List.map_append]; show Have _ _ [ownK _ _ _ _ (2 * t + 2) (flatP (ints (_ ++ [(LM, I2), (LM, I2 + 1)])))]; rw [own_pcs2]; exact HV7.out.up (by repeat' (first | (with_reducible first | exact Below.refl _ _ | assumption | refine below_over ?_ _ _ | refine Lw.below_alloc ?_ _ | refine Below.drew ?_ | refine below_drewN ?_ _ | refine Below.setCell ?_ ?_ _) | go_size))⟩
      case measure => simp [intOf]; omega
    · have lt1 : ¬ (t : Int) < (n : Int) := by omega
      have et : qs.take t = qs := List.take_of_length_le (by have := HLEN.out; omega)
      have et2 : t = qs.length := by have := HLEN.out; omega
      rw [et] at HVr
      have HE := Lib.hid et2
      clear et et2
      go_wp2
      go_ret
      obtain ⟨-, A2, cap2, rfl⟩ := own_formK (okI HVr.out.i0)
      exact ⟨A2, 2 * t, cap2, rfl, okI HVr.out.i0, by rw [hvs_len, ← HE.out], HVr.out.below⟩
set_option maxRecDepth 100000 in
set_option maxHeartbeats 4000000 in
theorem halves_no (BB : Nat) (qs : List ((Nat × Nat) × Int)) (A : Option Addr) (n cap : Nat) (w : World) (hrow : (stRowT 3 encF A n cap qs).I w) (hB : BB ≤ 59) (hq : ∀ q ∈ qs, q.1.1 = 0 ∧ q.1.2 < 576460752303423488) (hn : n ≤ 4096) :
    Calls Tryz.prog 55 #[.int .i64 (BB : Int), .slice A n cap] w fun e w' => e = .returned (.slice none 0 0) ∧ Below w.heap.size w w' := by
  have hlen : qs.length = n := (strI hrow).len
  have HR := Lib.hid hrow
  have HQ := Lib.hid hq
  have HLEN := Lib.hid hlen
  have HBL := Lib.hid hB
  clear hrow hlen hq hB
  go_enter Tryz.func55, Tryz.ntmps55
  go_wp2
  go_loopw [5, 13] (fun fv iv wr => ∃ (t : Nat), t ≤ n ∧ iv = .int .i64 (t : Int) ∧ fv = .slice none 0 0 ∧ Below w.heap.size w wr) (fun _ iv _ => 5000 - (intOf iv).toNat)
  case atStart => exact ⟨0, Nat.zero_le _, rfl, rfl, Below.refl _ _⟩
  case round =>
    obtain ⟨t, ht, rfl, rfl, hv⟩ := hrel
    have HVr := Lib.hid hv
    have HRR := Lib.hid ((strI HR.out).up hv)
    clear hv
    by_cases hmore : t < n
    · have lt0 : (0 : Int) ≤ (t : Int) := by omega
      have lt1 : (t : Int) < (n : Int) := by omega
      obtain ⟨q, hqx⟩ : ∃ q, qs[t]? = some q := ⟨_, List.getElem?_eq_getElem (by have := HLEN.out; omega)⟩
      obtain ⟨hq1, hq2⟩ := HQ.out q (List.mem_of_getElem? hqx)
      obtain ⟨aa, g, o, rfl, hadd, hat⟩ := HRR.out.at hqx (v0 := .int .i64 (q.1.1 : Int)) rfl
      have r0 := hat 0 (.int .i64 (q.1.1 : Int)) rfl
      have r1 := hat 1 (.int .u64 (q.1.2 : Int)) rfl
      have r2 := hat 2 (.int .i64 q.2) rfl
      rw [Nat.add_zero] at r0
      clear hat
      rw [hq1] at r0
      obtain ⟨ix, hix⟩ : ∃ ix, q.1.2 = ix := ⟨_, rfl⟩
      obtain ⟨VV, hVV⟩ : ∃ v, q.2 = v := ⟨_, rfl⟩
      rw [hix] at r1 hq2
      rw [hVV] at r2
      have HCH := Lib.hid (fun w => chalves_0 (BB : Int) (ix : Int) w)
      clear hq1 hq2 hix hVV hqx
      go_wp2_with (go_at_call 95; (with_reducible refine (HCH.out _).mono ?_); rintro e w5 ⟨rfl, hb⟩; have HVx := Lib.hid (HVr.out.alloc HVr.out.size (.cells #[.int .i64 0, .int .u64 (ix : Int), .int .i64 VV] 85)); have HV5 := Lib.hid (HVx.out.trans (hb.mono HVx.out.size)); clear hb)
      go_roundw
      case rel => exact ⟨t + 1, by omega, by go_num, rfl, by have h5 := HV5.out; exact (by repeat' (first | (with_reducible first | exact Below.refl _ _ | assumption | refine below_over ?_ _ _ | refine Lw.below_alloc ?_ _ | refine Below.drew ?_ | refine below_drewN ?_ _ | refine Below.setCell ?_ ?_ _) | go_size))⟩
      case measure => simp [intOf]; omega
    · have lt1 : ¬ (t : Int) < (n : Int) := by omega
      go_wp2
      go_ret
      exact ⟨rfl, HVr.out⟩
end Go.Proofs.YtkflggojiiebeaaGreat.Hvy

namespace Go.Proofs.YtkflggojiiebeaaGreat.Hvy
open Go Go.RowKit Lw Grd Lin Con Shp Sk Exa Lev Stk Pcs Spn Qnt
set_option linter.unusedVariables false
set_option linter.unusedSimpArgs false
set_option linter.unusedSimpArgs false
theorem cfg_bt (c : Cfg) (w : World) : (Instr.field 24 (.agg #[.int .i64 c.bt, .int .i64 c.rw, .int .i64 c.wd, .int .i64 c.md, .int .u64 c.sd]) 0).run Tryz.prog w = .ok (.int .i64 c.bt) w := by kernel_rfl
theorem appn_list {P : Program} {w : World} {ops : Array Oper} {rest : List Oper} {o : Oper} {a : Act} {Q : Exit → Act → World → Prop} (hgd : o.guard = none) (s x : Operand) (t : TypeId)
    (ho : o.op = .call { callee := .builtin .append, args := #[s, x], argTypes := #[t, t] }) (base : Nat) (e : TypeId) (i : TypeInfo) (size : Nat) (ht : P.underlying t = some (.slice e)) (hi : P.info? e = some i)
    (v : Value) (n : Nat) (xs : List Value) (hs : a.eval s = v) (hown : w.ownsRow base e size v n xs) (hx : a.eval x = .slice none 0 0) (h : wpList P ops Q rest (a.put o.dst v) w) : wpList P ops Q (o :: rest) a w :=
  wpList_plain hgd fun _ hK => by
    have hrun := run_append_owned_none (P := P) (w := w) base t o.type e i size ht hi v n _ hown
    have hh := hK _ _ h
    unfold Oper.wp
    simp [execOp, ho, resolve, invoke, builtin, hs, hx, hrun, Result.andThen]
    exact hh
theorem own_base {w : World} {b0 b1 : Nat} {e : TypeId} {K : Nat} {v : Value} {n : Nat} {xs : List Value} (h : w.ownsRow b1 e K v n xs) (hb : b0 ≤ b1) : w.ownsRow b0 e K v n xs := by
  refine ⟨h.1, ?_⟩
  rcases h.2 with h2 | ⟨g, cap, cur, h1, h2, h3⟩
  · exact .inl h2
  · exact .inr ⟨g, cap, cur, h1, Nat.le_trans hb h2, h3⟩
theorem enc_oneF {us : List ((Nat × Nat) × Int)} : ∀ u ∈ us.flatMap encF, u.oneCell' = true := by
  intro u hu
  obtain ⟨q, -, h2⟩ := List.mem_flatMap.1 hu
  simp [encF] at h2
  rcases h2 with rfl | rfl | rfl <;> rfl
theorem own_pc1c (X : World) (U D : Int) (base : Nat) (hb : base ≤ X.heap.size) : (X.alloc (.cells #[.int .i64 U, .int .u64 D] 82)).ownsRow base 82 2 (.slice (some ⟨X.heap.size, 0, none⟩) 1 1) 1 [.int .i64 U, .int .u64 D] :=
  ⟨rfl, .inr ⟨X.heap.size, 1, _, rfl, hb, heap_alloc_new X _, Nat.le_refl _, by decide, rfl, rfl⟩⟩
theorem turn2C {w0 w w' : World} {t0 t1 : Thing} {B K n g m cap : Nat} {e : TypeId} {v : Value} {cs ds : List Value} {ts : List Thing} (h : Have w0 w (t0 :: t1 :: ownK B e K v n cs :: ts)) (hown : w'.ownsRow B e K (.slice (some ⟨g, 0, none⟩) m cap) m ds) (hg : w.grownBy w' v.ownBlock) (hat : v.ownBlock = some g ∨ g = w.heap.size) : Have w0 w' (t0 :: t1 :: ownK B e K (.slice (some ⟨g, 0, none⟩) m cap) m ds :: ts) := h.turn_2 _ hown (kept_grownK hg) (okF hat)
/-- What is asked of one level, as pieces; behind the last level nothing. -/
def askP (pt : Nat → Int → Int) (least : Int) (B d : Nat) : List (Nat × Nat) := if d ≤ B then (askQ pt least B d).map (fun i => (B - d, i)) else []
theorem askP_at {pt : Nat → Int → Int} {least : Int} {B d : Nat} (h : d ≤ B) : askP pt least B d = (askQ pt least B d).map (fun i => (B - d, i)) := if_pos h
theorem askP_next {pt : Nat → Int → Int} {least : Int} {B d LM : Nat} (h : B - d = LM + 1) : askP pt least B (d + 1) = (hvs (tellQ pt least (LM + 1) (askQ pt least B d))).map (fun i => (LM, i)) := by
  have e : B - (d + 1) = LM := by omega
  rw [askP, if_pos (by omega), e, hvs_tell, ← h]
  rfl
theorem askP_last {pt : Nat → Int → Int} {least : Int} {B : Nat} : askP pt least B (B + 1) = [] := if_neg (by omega)
theorem found_next (pt : Nat → Int → Int) (least : Int) (B d : Nat) : foundQ pt least B (d + 1) = foundQ pt least B d ++ tellQ pt least (B - d) (askQ pt least B d) := rfl
theorem own_some {w : World} {base : Nat} {e : TypeId} {K : Nat} {A : Option Addr} {n cap : Nat} {xs : List Value} (h : w.ownsRow base e K (.slice A n cap) n xs) (hn : 0 < n) : ∃ g, A = some ⟨g, 0, none⟩ := by
  rcases h.2 with ⟨h1, h2⟩ | ⟨g, cap, cur, h1, -⟩
  · omega
  · injection h1 with h1
    exact ⟨g, h1⟩
theorem lv_bd {l : List Nat} {d L : Nat} (h : ∀ i ∈ l, i < 2 ^ d) (hd : d ≤ 59) (hL : L ≤ 59) : ∀ u ∈ ints (l.map (fun i => (L, i))), (-9223372036854775808 ≤ u.1 ∧ u.1 ≤ 9223372036854775807) ∧ (0 ≤ u.2 ∧ u.2 ≤ 18446744073709551615) := by
  intro u hu
  obtain ⟨p, hp, rfl⟩ := List.mem_map.1 hu
  obtain ⟨i, hi, rfl⟩ := List.mem_map.1 hp
  have h2 := h i hi
  have h3 : 2 ^ d ≤ 2 ^ 59 := Nat.pow_le_pow_right (by omega) hd
  have e59 : (2 : Nat) ^ 59 = 576460752303423488 := rfl
  refine ⟨⟨?_, ?_⟩, ?_, ?_⟩
  · show -9223372036854775808 ≤ (L : Int); omega
  · show (L : Int) ≤ 9223372036854775807; omega
  · show 0 ≤ (i : Int); omega
  · show (i : Int) ≤ 18446744073709551615; omega
set_option maxRecDepth 100000 in
set_option maxHeartbeats 4000000 in
theorem heavy_a (p : Addr) (F : Nat → Prop) (c : Cfg) (sts : List LS) (least bud : Int) (w : World) (h : ST w p F c sts) (l0 : -9223372036854775808 ≤ least) (l1 : least ≤ 9223372036854775807) (u0 : -9223372036854775808 ≤ bud) (u1 : bud ≤ 9223372036854775807) (h1 : least < 1 ∨ 4096 < bud) :
    Calls Tryz.prog 17 #[.pointer (some p), .int .i64 least, .int .i64 bud] w fun e w' => ∃ (A : Option Addr) (n cap : Nat), e = .returned (.tuple #[.slice A n cap, .int .i64 (hvC c (fun L i => spV c sts (L : Int) i) least bud)]) ∧ w'.ownsRow w.heap.size 85 3 (.slice A n cap) n ((hvL c (fun L i => spV c sts (L : Int) i) least bud).flatMap encF) ∧ (hvL c (fun L i => spV c sts (L : Int) i) least bud).length = n ∧ Below w.heap.size w w' := by
  have hq := hv_arg (c := c) (pt := (fun L i => spV c sts (L : Int) i)) h1
  rw [hq.1, hq.2]
  by_cases h2 : least < 1
  · have f1 : decide (least < 1) = true := decide_eq_true h2
    clear h l0 l1 u0 u1 h1 hq
    go_enter Tryz.func17, Tryz.ntmps17
    go_wp2
    refine bodyPost_ret (v := .tuple #[.slice none 0 0, .int .i64 1]) (by simp [results, Tryz.results17, go_sem]) rfl ?_
    exact ⟨none, 0, 0, rfl, World.ownsRow_nil _ _ _ _, rfl, Below.refl _ _⟩
  · have h3 : 4096 < bud := by omega
    have f1 : decide (least < 1) = false := decide_eq_false h2
    have f2 : decide (4096 < bud) = true := decide_eq_true h3
    clear h l0 l1 u0 u1 h1 hq
    go_enter Tryz.func17, Tryz.ntmps17
    go_wp2
    refine bodyPost_ret (v := .tuple #[.slice none 0 0, .int .i64 1]) (by simp [results, Tryz.results17, go_sem]) rfl ?_
    exact ⟨none, 0, 0, rfl, World.ownsRow_nil _ _ _ _, rfl, Below.refl _ _⟩
set_option maxRecDepth 100000 in
set_option maxHeartbeats 8000000 in
theorem heavy_m (p : Addr) (F : Nat → Prop) (c : Cfg) (sts : List LS) (least bud : Int) (w : World) (h : ST w p F c sts) (l0 : -9223372036854775808 ≤ least) (l1 : least ≤ 9223372036854775807) (u0 : -9223372036854775808 ≤ bud) (u1 : bud ≤ 9223372036854775807) (h1 : 1 ≤ least) (h2 : bud ≤ 4096) :
    Calls Tryz.prog 17 #[.pointer (some p), .int .i64 least, .int .i64 bud] w fun e w' => ∃ (A : Option Addr) (n cap : Nat), e = .returned (.tuple #[.slice A n cap, .int .i64 (hvC c (fun L i => spV c sts (L : Int) i) least bud)]) ∧ w'.ownsRow w.heap.size 85 3 (.slice A n cap) n ((hvL c (fun L i => spV c sts (L : Int) i) least bud).flatMap encF) ∧ (hvL c (fun L i => spV c sts (L : Int) i) least bud).length = n ∧ Below w.heap.size w w' := by
  have hbt := h.1.1
  have hbt2 := h.1.2.1
  have HOV := Lib.hid (fun hh => hv_over (c := c) (pt := (fun L i => spV c sts (L : Int) i)) (least := least) (bud := bud) h1 h2 hh)
  have HYES := Lib.hid (fun hh => hv_yes (c := c) (pt := (fun L i => spV c sts (L : Int) i)) (least := least) (bud := bud) h1 h2 hh)
  have CC := Lib.hid (fun w hs => cs_config p F c sts w hs)
  have HD := Lib.hid h
  obtain ⟨BB, hBB⟩ : ∃ B, c.bt.toNat = B := ⟨_, rfl⟩
  rw [hBB] at HOV HYES
  have hcb : c.bt = (BB : Int) := by omega
  have hfd : ∀ w, (Instr.field 24 (.agg #[.int .i64 c.bt, .int .i64 c.rw, .int .i64 c.wd, .int .i64 c.md, .int .u64 c.sd]) 0).run Tryz.prog w = .ok (.int .i64 (BB : Int)) w := fun w => by
    have h5 := cfg_bt c w
    rw [h5, hcb]
  have HB59 : Hid (BB ≤ 59) := Lib.hid (by omega)
  have f1 : decide (least < 1) = false := decide_eq_false (by omega)
  have f2 : decide (4096 < bud) = false := decide_eq_false (by omega)
  have f3 : ¬ least < 1 := by omega
  have f4 : ¬ 4096 < bud := by omega
  obtain ⟨i0, hi_, hz0, hz1, hz2⟩ := info_parts pc_info
  obtain ⟨j0, hj_, hy0, hy1, hy2⟩ := info_parts cfd_info
  have HU := Lib.hid (And.intro h2 (And.intro u0 (And.intro l0 l1)))
  have wB : wrap64 ((BB : Int) + 1) = (BB : Int) + 1 := IntWalk.wrap64_in _ ⟨by omega, by omega⟩
  clear h hbt hbt2 hBB hcb h1 l0 l1 u0 u1 h2
  go_enter Tryz.func17, Tryz.ntmps17
  go_wp2_with (go_at_call 53; (with_reducible refine (CC.out _ HD.out).mono ?_); rintro e w1 ⟨rfl, hb⟩; have HB1 := Lib.hid hb; clear hb)
  have HV1 := Lib.hid ((((Have.nil w).up HB1.out).push (ownK w.heap.size 85 3 (.slice none 0 0) 0 []) (Below.refl _ _) (World.ownsRow_nil _ _ _ _) (fun k hk => by cases hk)).push (ownK w.heap.size 82 2 (.slice (some ⟨w1.heap.size, 0, none⟩) 1 1) 1 [.int .i64 (BB : Int), .int .u64 0]) (Lw.below_alloc (Below.refl _ _) _) (own_pc1c w1 (BB : Int) 0 w.heap.size HB1.out.size) (fun k hk => by have : some w1.heap.size = some k := hk; injection this with this; omega))
  clear f1 f2 f3 f4
  rw [wB]
  go_loopw [2, 9, 10, 26] (fun bv av ov iv wr => ∃ (d : Nat), d ≤ BB + 1 ∧ iv = .int .i64 (d : Int) ∧ bv = .int .i64 (bud - (((countQ (fun L i => spV c sts (L : Int) i) least BB d) : Nat) : Int)) ∧ (d = 0 ∨ (((countQ (fun L i => spV c sts (L : Int) i) least BB d) : Nat) : Int) ≤ bud) ∧ ((foundQ (fun L i => spV c sts (L : Int) i) least BB d).length = 0 → ov = .slice none 0 0) ∧ Have w wr [ownK w.heap.size 82 2 av (askP (fun L i => spV c sts (L : Int) i) least BB d).length (flatP (ints (askP (fun L i => spV c sts (L : Int) i) least BB d))), ownK w.heap.size 85 3 ov (foundQ (fun L i => spV c sts (L : Int) i) least BB d).length ((foundQ (fun L i => spV c sts (L : Int) i) least BB d).flatMap encF)]) (fun _ _ _ iv _ => 100 - (intOf iv).toNat)
  case atStart => exact ⟨0, Nat.zero_le _, rfl, by show Value.int .i64 bud = .int .i64 (bud - 0); rw [Int.sub_zero], .inl rfl, fun _ => rfl, HV1.out⟩
  case round =>
    obtain ⟨d, hd, rfl, rfl, hbc, hnil, hv⟩ := hrel
    have HVr := Lib.hid hv
    have HNIL := Lib.hid hnil
    have HBC := Lib.hid hbc
    clear hv hnil hbc
    by_cases hmore : d ≤ BB
    · have lt1 : (d : Int) < (BB : Int) + 1 := by omega
      have hd59 : d ≤ 59 := by have := HB59.out; omega
      obtain ⟨l, hl⟩ : ∃ l, askQ (fun L i => spV c sts (L : Int) i) least BB d = l := ⟨_, rfl⟩
      obtain ⟨LV, hLV⟩ : ∃ n, BB - d = n := ⟨_, rfl⟩
      have haP : (askP (fun L i => spV c sts (L : Int) i) least BB d) = l.map (fun i => (LV, i)) := by rw [askP_at hmore, hl, hLV]
      have hfn : (foundQ (fun L i => spV c sts (L : Int) i) least BB (d + 1)) = (foundQ (fun L i => spV c sts (L : Int) i) least BB d) ++ (tellQ (fun L i => spV c sts (L : Int) i) least LV l) := by rw [found_next, hl, hLV]
      have hcn : (countQ (fun L i => spV c sts (L : Int) i) least BB (d + 1)) = (countQ (fun L i => spV c sts (L : Int) i) least BB d) + l.length := by rw [← hl]; rfl
      have hcm : (countQ (fun L i => spV c sts (L : Int) i) least BB (d + 1)) ≤ (countQ (fun L i => spV c sts (L : Int) i) least BB (BB + 1)) := countQ_mono _ _ _ (by omega)
      have hlt : ∀ i ∈ l, i < 2 ^ d := fun i hi => askQ_lt (by rw [hl]; exact hi)
      obtain ⟨NA, hNA⟩ : ∃ n, l.length = n := ⟨_, rfl⟩
      obtain ⟨NF, hNF⟩ : ∃ n, (foundQ (fun L i => spV c sts (L : Int) i) least BB d).length = n := ⟨_, rfl⟩
      have hfl := foundQ_le (fun L i => spV c sts (L : Int) i) least BB d
      rw [hNF] at hfl
      have HLN : (askP (fun L i => spV c sts (L : Int) i) least BB d).length = NA := by rw [haP, List.length_map, hNA]
      rw [HLN, haP, hNF] at HVr
      rw [hNF] at HNIL
      rw [hNA] at hcn
      obtain ⟨BV, hBV⟩ : ∃ b, bud - (((countQ (fun L i => spV c sts (L : Int) i) least BB d) : Nat) : Int) = b := ⟨_, rfl⟩
      rw [hBV]
      obtain ⟨-, AA, capA, rfl⟩ := own_formK (okI HVr.out.i0)
      have HBV := Lib.hid (And.intro hBV (And.intro hcn hcm))
      by_cases hbud : BV < (NA : Int)
      · have HQ := Lib.hid (HOV.out (by omega))
        have g1 : decide (BV < (NA : Int)) = true := decide_eq_true hbud
        clear hBV hcn hcm hlt hfl haP hfn HLN hl hLV
        go_wp2
        refine bodyPost_ret (v := .tuple #[.slice none 0 0, .int .i64 7]) (by simp [results, Tryz.results17, go_sem]) rfl ?_
        rw [HQ.out.1, HQ.out.2]
        exact ⟨none, 0, 0, rfl, World.ownsRow_nil _ _ _ _, rfl, HVr.out.below⟩
      · have g1 : decide (BV < (NA : Int)) = false := decide_eq_false hbud
        have HN4 : Hid (NA ≤ 4096 ∧ NF + NA ≤ 4096) := Lib.hid (by have := HU.out.1; omega)
        obtain ⟨BN, hBN⟩ : ∃ b, BV - (NA : Int) = b := ⟨_, rfl⟩
        have w1_ : wrap64 BN = BN := IntWalk.wrap64_in _ ⟨by have := HU.out.1; omega, by have := HU.out.1; omega⟩
        have HBN : Hid (BN = bud - (((countQ (fun L i => spV c sts (L : Int) i) least BB (d + 1)) : Nat) : Int) ∧ (((countQ (fun L i => spV c sts (L : Int) i) least BB (d + 1)) : Nat) : Int) ≤ bud) := Lib.hid (by omega)
        have HFN := Lib.hid hfn
        have HLV := Lib.hid hLV
        have HL := Lib.hid hl
        have HNF := Lib.hid hNF
        have HLF : Hid ((tellQ (fun L i => spV c sts (L : Int) i) least LV l).length ≤ NA) := Lib.hid (by rw [← hNA]; have := tellQ_take (fun L i => spV c sts (L : Int) i) least LV l.length l; rw [List.take_length] at this; exact this)
        have HPC := Lib.hid (pc_own (okI HVr.out.i0) (by rw [ints_len, List.length_map, hNA]) (lv_bd hlt (by have := HB59.out; omega) (by have := HB59.out; omega)))
        have HMU := Lib.hid (fun A cap w hs hr => much_any p F c sts least LV l A NA cap w hs hr (by have := HB59.out; omega) (fun i hi => Nat.lt_of_lt_of_le (hlt i hi) (Nat.pow_le_pow_right (by omega) (show d ≤ 59 by have := HB59.out; omega))) HN4.out.1)
        have HTQ : Hid (∀ q ∈ (tellQ (fun L i => spV c sts (L : Int) i) least LV l), q.1.1 = LV ∧ q.1.2 < 2 ^ (BB - LV)) := Lib.hid (fun q hq => by
          obtain ⟨q1, q2, -, -⟩ := mem_tellQ.1 hq
          have e5 : BB - LV = d := by omega
          rw [e5]
          exact ⟨q1, hlt _ q2⟩)
        clear hBV hcn hcm hlt hfl haP hfn HLN hl hLV hNA hNF HBV
        obtain ⟨A3, cap3, e3, hs3, -⟩ := HPC.out
        injection e3 with e3a e3b e3c
        subst e3a e3c
        have HS3 := Lib.hid hs3
        clear hs3 HPC
        have HDR := Lib.hid (HD.out.up HVr.out.below)
        go_upto_region 12 with (go_at_call 54; (with_reducible refine (HMU.out _ _ _ HDR.out HS3.out).mono ?_); rintro e w5 ⟨A2, n2, cap2, rfl, hown, hn2, hn0, hb⟩; have HN2 := Lib.hid hn2; have HN0 := Lib.hid hn0; clear hn2 hn0)
        have HV5 := Lib.hid (HVr.out.push (ownK wr.heap.size 85 3 (.slice A2 n2 cap2) n2 ((tellQ (fun L i => spV c sts (L : Int) i) least LV l).flatMap encF)) hb hown (fun k hk => own_ge hown k hk))
        clear hown hb HDR HS3 HMU
        rw [← HN2.out] at HLF
        by_cases hz : n2 = 0
        · obtain ⟨rfl, rfl⟩ := HN0.out hz
          subst hz
          have hte : (tellQ (fun L i => spV c sts (L : Int) i) least LV l) = [] := List.eq_nil_of_length_eq_zero HN2.out.symm
          clear HN0
          cases LV with
          | zero =>
            have HTQ0 : Hid (∀ q ∈ (tellQ (fun L i => spV c sts (L : Int) i) least 0 l), q.1.1 = 0 ∧ q.1.2 < 576460752303423488) := Lib.hid (fun q hq => by rw [hte] at hq; cases hq)
            have HTE := Lib.hid hte
            clear hte
            go_upto_region 13 with (at_builtin; go_must (refine appn_list rfl _ _ 39 rfl w.heap.size 85 j0 3 cfds_u hj_ _ _ _ rfl (okI HV5.out.i2) rfl ?_))
            have HV7 := Lib.hid HV5.out
            have HSR := Lib.hid (st_own encF_len (okI HV7.out.i0) HN2.out.symm)
            obtain ⟨A8, cap8, e8, HS8, -⟩ := HSR.out
            have HC8 := Lib.hid (halves_no BB (tellQ (fun L i => spV c sts (L : Int) i) least 0 l) A8 0 cap8 _ HS8 HB59.out HTQ0.out (by have := HLF.out; have := HN4.out; omega))
            clear HS8
            injection e8 with e8a e8b e8c
            subst e8a e8c
            go_wp2_with (go_at_call 55; (with_reducible refine HC8.out.mono ?_); rintro e w9 ⟨rfl, hb9⟩)
            have HV9 := Lib.hid ((HV7.out.push (ownK w.heap.size 82 2 (.slice none 0 0) 0 []) hb9 (World.ownsRow_nil _ _ _ _) (fun k hk => by cases hk)).erase1.erase1)
            go_roundw
            case rel => exact ⟨d + 1, by omega, by go_num, by rw [← HBN.out.1], .inr HBN.out.2, by rw [HFN.out, HTE.out, List.append_nil, HNF.out]; exact HNIL.out, by have e0 : (askP (fun L i => spV c sts (L : Int) i) least BB (d + 1)) = [] := (by have := HLV.out; have : d = BB := (by omega); rw [this]; exact askP_last); rw [e0, HFN.out, HTE.out, List.append_nil, HNF.out]; exact HV9.out.up (by repeat' (first | (with_reducible first | exact Below.refl _ _ | assumption | refine below_over ?_ _ _ | refine Lw.below_alloc ?_ _ | refine Below.drew ?_ | refine below_drewN ?_ _ | refine Below.setCell ?_ ?_ _) | go_size))⟩
            case measure => simp [intOf]; omega
          | succ LM =>
            have HLM : Hid (LM + 1 = LM + 1 ∧ LM + 1 ≤ BB) := Lib.hid ⟨rfl, by have := HLV.out; omega⟩
            have HTE := Lib.hid hte
            clear hte
            go_upto_region 13 with (at_builtin; go_must (refine appn_list rfl _ _ 39 rfl w.heap.size 85 j0 3 cfds_u hj_ _ _ _ rfl (okI HV5.out.i2) rfl ?_))
            have HV7 := Lib.hid HV5.out
            have HSR := Lib.hid (st_own encF_len (okI HV7.out.i0) HN2.out.symm)
            obtain ⟨A8, cap8, e8, HS8, -⟩ := HSR.out
            have HC8 := Lib.hid (halves_yes BB LM (tellQ (fun L i => spV c sts (L : Int) i) least (LM + 1) l) A8 0 cap8 _ HS8 HB59.out HLM.out.2 HTQ.out (by have := HLF.out; have := HN4.out; omega))
            clear HS8
            injection e8 with e8a e8b e8c
            subst e8a e8c
            go_wp2_with (go_at_call 55; (with_reducible refine HC8.out.mono ?_); rintro e w9 ⟨A9, n9, cap9, rfl, hown9, hn9, hb9⟩)
            have HV9 := Lib.hid ((HV7.out.push (ownK w.heap.size 82 2 (.slice A9 n9 cap9) n9 _) hb9 (own_base hown9 HV7.out.below.size) (fun k hk => own_ge hown9 k hk)).erase1.erase1)
            go_roundw
            case rel => exact ⟨d + 1, by omega, by go_num, by rw [← HBN.out.1], .inr HBN.out.2, by rw [HFN.out, HTE.out, List.append_nil, HNF.out]; exact HNIL.out, by rw [askP_next HLV.out, HL.out, List.length_map, ← hn9, HFN.out, HTE.out, List.append_nil, HNF.out]; have h9 := HV9.out; rw [HTE.out] at h9; exact h9.up (by repeat' (first | (with_reducible first | exact Below.refl _ _ | assumption | refine below_over ?_ _ _ | refine Lw.below_alloc ?_ _ | refine Below.drew ?_ | refine below_drewN ?_ _ | refine Below.setCell ?_ ?_ _) | go_size))⟩
            case measure => simp [intOf]; omega
        · clear HN0
          obtain ⟨g2, rfl⟩ : ∃ g2, A2 = some ⟨g2, 0, none⟩ := own_some (okI HV5.out.i0) (by omega)
          have HFL : Hid ((foundQ (fun L i => spV c sts (L : Int) i) least BB (d + 1)).length = NF + n2) := Lib.hid (by rw [HFN.out, List.length_append, HNF.out, ← HN2.out])
          have HFM : Hid ((foundQ (fun L i => spV c sts (L : Int) i) least BB (d + 1)).flatMap encF = (foundQ (fun L i => spV c sts (L : Int) i) least BB d).flatMap encF ++ (tellQ (fun L i => spV c sts (L : Int) i) least LV l).flatMap encF) := Lib.hid (by rw [HFN.out, List.flatMap_append])
          cases LV with
          | zero =>
            have HTQ0 : Hid (∀ q ∈ (tellQ (fun L i => spV c sts (L : Int) i) least 0 l), q.1.1 = 0 ∧ q.1.2 < 576460752303423488) := Lib.hid (fun q hq => ⟨(HTQ.out q hq).1, Nat.lt_of_lt_of_le (HTQ.out q hq).2 (Nat.pow_le_pow_right (by omega) (show BB - 0 ≤ 59 by have := HB59.out; omega))⟩)
            go_upto_region 13 with (at_builtin; go_must (refine wpList_append_lies _ rfl _ _ 39 rfl w.heap.size 85 j0 (.agg #[.int .i64 0, .int .u64 0, .int .i64 0]) 3 24 cfds_u hj_ hy0 hy1 hy2 rfl (by decide) _ _ _ rfl (okI HV5.out.i2) ⟨g2, 0, none⟩ n2 cap2 ((tellQ (fun L i => spV c sts (L : Int) i) least 0 l).flatMap encF) rfl (by rw [flat_len encF_len, HN2.out]) ((okI HV5.out.i0).cells rfl) enc_oneF (by omega) (by have := HLF.out; have := HN4.out; unfold maxLen; omega) (by have := HLF.out; have := HN4.out; omega) (by have := HV5.out.below.size; exact this) _ rfl ?_); intro g7 cap7 w7 hown7 hgrow7 hat7 hlt7)
            have HV7 := Lib.hid (turn2C HV5.out hown7 hgrow7 hat7)
            clear hown7 hgrow7 hat7 hlt7
            have HSR := Lib.hid (st_own encF_len (okI HV7.out.i0) HN2.out.symm)
            obtain ⟨A8, cap8, e8, HS8, -⟩ := HSR.out
            have HC8 := Lib.hid (halves_no BB (tellQ (fun L i => spV c sts (L : Int) i) least 0 l) A8 n2 cap8 _ HS8 HB59.out HTQ0.out (by have := HLF.out; have := HN4.out; omega))
            clear HS8
            injection e8 with e8a e8b e8c
            subst e8a e8c
            go_wp2_with (go_at_call 55; (with_reducible refine HC8.out.mono ?_); rintro e w9 ⟨rfl, hb9⟩)
            have HV9 := Lib.hid ((HV7.out.push (ownK w.heap.size 82 2 (.slice none 0 0) 0 []) hb9 (World.ownsRow_nil _ _ _ _) (fun k hk => by cases hk)).erase1.erase1)
            go_roundw
            case rel => exact ⟨d + 1, by omega, by go_num, by rw [← HBN.out.1], .inr HBN.out.2, fun e => by rw [HFL.out] at e; omega, by have e0 : (askP (fun L i => spV c sts (L : Int) i) least BB (d + 1)) = [] := (by have := HLV.out; have : d = BB := (by omega); rw [this]; exact askP_last); rw [e0, HFL.out, HFM.out]; exact HV9.out.up (by repeat' (first | (with_reducible first | exact Below.refl _ _ | assumption | refine below_over ?_ _ _ | refine Lw.below_alloc ?_ _ | refine Below.drew ?_ | refine below_drewN ?_ _ | refine Below.setCell ?_ ?_ _) | go_size))⟩
            case measure => simp [intOf]; omega
          | succ LM =>
            have HLM : Hid (LM + 1 = LM + 1 ∧ LM + 1 ≤ BB) := Lib.hid ⟨rfl, by have := HLV.out; omega⟩
            go_upto_region 13 with (at_builtin; go_must (refine wpList_append_lies _ rfl _ _ 39 rfl w.heap.size 85 j0 (.agg #[.int .i64 0, .int .u64 0, .int .i64 0]) 3 24 cfds_u hj_ hy0 hy1 hy2 rfl (by decide) _ _ _ rfl (okI HV5.out.i2) ⟨g2, 0, none⟩ n2 cap2 ((tellQ (fun L i => spV c sts (L : Int) i) least (LM + 1) l).flatMap encF) rfl (by rw [flat_len encF_len, HN2.out]) ((okI HV5.out.i0).cells rfl) enc_oneF (by omega) (by have := HLF.out; have := HN4.out; unfold maxLen; omega) (by have := HLF.out; have := HN4.out; omega) (by have := HV5.out.below.size; exact this) _ rfl ?_); intro g7 cap7 w7 hown7 hgrow7 hat7 hlt7)
            have HV7 := Lib.hid (turn2C HV5.out hown7 hgrow7 hat7)
            clear hown7 hgrow7 hat7 hlt7
            have HSR := Lib.hid (st_own encF_len (okI HV7.out.i0) HN2.out.symm)
            obtain ⟨A8, cap8, e8, HS8, -⟩ := HSR.out
            have HC8 := Lib.hid (halves_yes BB LM (tellQ (fun L i => spV c sts (L : Int) i) least (LM + 1) l) A8 n2 cap8 _ HS8 HB59.out HLM.out.2 HTQ.out (by have := HLF.out; have := HN4.out; omega))
            clear HS8
            injection e8 with e8a e8b e8c
            subst e8a e8c
            go_wp2_with (go_at_call 55; (with_reducible refine HC8.out.mono ?_); rintro e w9 ⟨A9, n9, cap9, rfl, hown9, hn9, hb9⟩)
            have HV9 := Lib.hid ((HV7.out.push (ownK w.heap.size 82 2 (.slice A9 n9 cap9) n9 _) hb9 (own_base hown9 HV7.out.below.size) (fun k hk => own_ge hown9 k hk)).erase1.erase1)
            go_roundw
            case rel => exact ⟨d + 1, by omega, by go_num, by rw [← HBN.out.1], .inr HBN.out.2, fun e => by rw [HFL.out] at e; omega, by rw [askP_next HLV.out, HL.out, List.length_map, ← hn9, HFL.out, HFM.out]; exact HV9.out.up (by repeat' (first | (with_reducible first | exact Below.refl _ _ | assumption | refine below_over ?_ _ _ | refine Lw.below_alloc ?_ _ | refine Below.drew ?_ | refine below_drewN ?_ _ | refine Below.setCell ?_ ?_ _) | go_size))⟩
            case measure => simp [intOf]; omega
    · have lt1 : ¬ (d : Int) < (BB : Int) + 1 := by omega
      have ed : d = BB + 1 := by omega
      subst ed
      have HQ := Lib.hid (HYES.out (by have := HBC.out; omega))
      obtain ⟨NF, hNF⟩ : ∃ n, (foundQ (fun L i => spV c sts (L : Int) i) least BB (BB + 1)).length = n := ⟨_, rfl⟩
      rw [hNF] at HVr
      obtain ⟨-, AO, capO, rfl⟩ := own_formK (okI HVr.out.i1)
      have HNF9 := Lib.hid hNF
      clear hNF
      go_wp2
      refine bodyPost_ret (v := .tuple #[.slice AO NF capO, .int .i64 0]) (by simp [results, Tryz.results17, go_sem]) rfl ?_
      rw [HQ.out.1, HQ.out.2]
      exact ⟨AO, NF, capO, rfl, okI HVr.out.i1, HNF9.out, HVr.out.below⟩
theorem hv_own (p : Addr) (F : Nat → Prop) (c : Cfg) (sts : List LS) (least bud : Int) (w : World) (h : ST w p F c sts) (l0 : -9223372036854775808 ≤ least) (l1 : least ≤ 9223372036854775807) (u0 : -9223372036854775808 ≤ bud) (u1 : bud ≤ 9223372036854775807) :
    Calls Tryz.prog 17 #[.pointer (some p), .int .i64 least, .int .i64 bud] w fun e w' => ∃ (A : Option Addr) (n cap : Nat), e = .returned (.tuple #[.slice A n cap, .int .i64 (hvC c (fun L i => spV c sts (L : Int) i) least bud)]) ∧ w'.ownsRow w.heap.size 85 3 (.slice A n cap) n ((hvL c (fun L i => spV c sts (L : Int) i) least bud).flatMap encF) ∧ (hvL c (fun L i => spV c sts (L : Int) i) least bud).length = n ∧ Below w.heap.size w w' := by
  by_cases h1 : least < 1 ∨ 4096 < bud
  · exact heavy_a p F c sts least bud w h l0 l1 u0 u1 h1
  · exact heavy_m p F c sts least bud w h l0 l1 u0 u1 (by omega) (by omega)
end Go.Proofs.YtkflggojiiebeaaGreat.Hvy

namespace Go.Proofs.YtkflggojiiebeaaGreat.Hvy
open Go Go.RowKit Go.Maps Lw Grd Lin Con Shp Sk Exa Lev Stk Pcs Spn Qnt
set_option linter.unusedVariables false
set_option linter.unusedSimpArgs false
set_option maxRecDepth 100000
theorem pk_fields : (match Tryz.prog.underlying 82 with | some (.struct fs) => (match fs.toList with | [f, g] => f.type == 3 && f.offset == 0 && g.type == 22 && g.offset == 1 && f.name != "_" && g.name != "_" | _ => false) | _ => false) = true := by kernel_rfl
theorem pk_cells : Tryz.prog.cellsOf 82 = 2 := by kernel_rfl
theorem pk_cells1 : Tryz.prog.cellsOf 3 = 1 := by kernel_rfl
theorem pk_cells2 : Tryz.prog.cellsOf 22 = 1 := by kernel_rfl
theorem pk_u1 : Tryz.prog.underlying 3 = some (.int .i64) := by kernel_rfl
theorem pk_u2 : Tryz.prog.underlying 22 = some (.int .u64) := by kernel_rfl
theorem pk_type : Tryz.prog.keyType 82 = true := by kernel_rfl
theorem pk_laid : laidOutB Tryz.prog = true := by kernel_rfl
theorem pk_row : (82 : TypeId) < Tryz.prog.types.size := of_decide_eq_true (by kernel_rfl)
theorem pk_wide : (match Tryz.prog.underlying 82 with | some (.array _ _) | some (.struct _) => true | _ => false) = true := by kernel_rfl
theorem pk_law : Keyed Tryz.prog 82 := Keyed.of_law (deep_law_laid pk_laid (m := 2) (by omega) pk_row (by kernel_rfl) pk_wide)
theorem pk_shape : ∃ f g, ∃ fs, Tryz.prog.underlying 82 = some (.struct fs) ∧ fs.toList = [f, g] ∧ f.type = 3 ∧ f.offset = 0 ∧ g.type = 22 ∧ g.offset = 1 ∧ (f.name != "_") = true ∧ (g.name != "_") = true := by
  have h := pk_fields
  cases hu : Tryz.prog.underlying 82 with
  | none => rw [hu] at h; cases h
  | some d =>
    rw [hu] at h
    cases d with
    | struct fs =>
      simp only at h
      match hf : fs.toList with
      | [] => rw [hf] at h; cases h
      | [f] => rw [hf] at h; cases h
      | [f, g] =>
        rw [hf] at h
        simp only [Bool.and_eq_true, beq_iff_eq] at h
        exact ⟨f, g, fs, rfl, hf, h.1.1.1.1.1, h.1.1.1.1.2, h.1.1.1.2, h.1.1.2, h.1.2, h.2⟩
      | f :: g :: k :: r => rw [hf] at h; cases h
    | _ => cases h
theorem pk_lits (d : Nat) (a b : Int) (ha : (Lit.int .i64 a).wf = true) (hb : (Lit.int .u64 b).wf = true) : Tryz.prog.keyLits (d + 2) 82 [.int .i64 a, .int .u64 b] = some [.int .i64 a, .int .u64 b] := by
  obtain ⟨f, g, fs, h1, h2, h3, h4, h5, h6, h7, h8⟩ := pk_shape
  have hall : fs.all (fun x => x.name != "_") = true := by
    rw [← Array.all_toList, h2]
    simp only [List.all_cons, List.all_nil, h7, h8, Bool.and_true]
  unfold Program.keyLits
  simp only [h1, pk_cells, hall, h2, List.mapM_cons, List.mapM_nil, h3, h4, h5, h6, pk_cells1, pk_cells2]
  simp [Program.keyLits, pk_u1, pk_u2, ha, hb]
theorem big_at {m n : Nat} (h : m + 1 < n) : n + 1 = n - 1 + 2 := by omega
theorem pk_key {a b : Int} (ha : (Lit.int .i64 a).wf = true) (hb : (Lit.int .u64 b).wf = true) : ∃ l, keyOf Tryz.prog 82 (.agg #[.int .i64 a, .int .u64 b]) = some l := by
  obtain ⟨f, g, fs, h1, h2, h3, h4, h5, h6, h7, h8⟩ := pk_shape
  have hformed : (Value.agg #[.int .i64 a, .int .u64 b]).formed Tryz.prog 82 = true := by simp [Value.formed, h1, pk_cells]
  obtain ⟨d, hd⟩ : ∃ d, Tryz.prog.types.size + 1 = d + 2 := ⟨Tryz.prog.types.size - 1, big_at (m := 0) (Nat.lt_of_le_of_lt (by decide) pk_row)⟩
  refine ⟨.string (keyBytes [.int .i64 a, .int .u64 b]), ?_⟩
  unfold keyOf
  rw [h1]
  simp only [pk_type, hformed, hd, Bool.and_true, if_true, Value.cells]
  rw [pk_lits d a b ha hb]
  rfl
theorem lit_u64 {x : Int} (h0 : 0 ≤ x) (h1 : x ≤ 18446744073709551615) : (Lit.int .u64 x).wf = true := WalkArith.wf_u64 ⟨h0, h1⟩
def pkV (L i : Nat) : Value := .agg #[.int .i64 (L : Int), .int .u64 (i : Int)]
/-- The key of a piece. -/
noncomputable def pkl (L i : Nat) : Lit := (keyOf Tryz.prog 82 (pkV L i)).getD .nil
theorem pkl_ok {L i : Nat} (hL : L ≤ 59) (hi : i ≤ 576460752303423488) : keyOf Tryz.prog 82 (.agg #[.int .i64 (L : Int), .int .u64 (i : Int)]) = some (pkl L i) := by
  obtain ⟨l, h⟩ := pk_key (a := (L : Int)) (b := (i : Int)) (WalkArith.wf_i64 (by omega)) (lit_u64 (by omega) (by omega))
  have e : pkl L i = l := by unfold pkl pkV; rw [h]; rfl
  rw [e, h]
theorem pkl_ne {L i M j : Nat} (hL : L ≤ 59) (hi : i ≤ 576460752303423488) (hM : M ≤ 59) (hj : j ≤ 576460752303423488) (h : ¬ (L = M ∧ i = j)) : pkl L i ≠ pkl M j := by
  intro e
  have h1 := pkl_ok hL hi
  have h2 := pkl_ok hM hj
  rw [e] at h1
  have h3 := pk_law.inj h1 h2
  injection h3 with h3
  simp at h3
  omega
/-- What lies in the map: the rows of pieces with their numbers. -/
def TD (D : DataW Unit) (qs : List ((Nat × Nat) × Int)) : Prop := IsMap D ∧ ∀ L i : Nat, L ≤ 59 → i ≤ 576460752303423488 →
  ((∃ q ∈ qs, q.1 = (L, i)) → Maps.has D (pkl L i) = true) ∧ ((∀ q ∈ qs, q.1 ≠ (L, i)) → Maps.has D (pkl L i) = false ∧ ∀ z, D.atKey (pkl L i) z = z) ∧ (∀ n, ((L, i), n) ∈ qs → ∀ z, D.atKey (pkl L i) z = .lit (.int .i64 n))
theorem TD.nil : TD (.map []) [] := ⟨isMap_empty, fun L i _ _ => ⟨fun ⟨q, hq, _⟩ => (by cases hq), fun _ => ⟨rfl, fun z => rfl⟩, fun n h => (by cases h)⟩⟩
theorem TD.put {D : DataW Unit} {qs : List ((Nat × Nat) × Int)} (h : TD D qs) {L i : Nat} {n : Int} (hL : L ≤ 59) (hi : i ≤ 576460752303423488) (hnew : ∀ q ∈ qs, q.1 ≠ (L, i)) : TD (D.put (pkl L i) (.lit (.int .i64 n))) (qs ++ [((L, i), n)]) := by
  have hk : WideAt.IsKeyLit (pkl L i) := pk_law.key (pkl_ok hL hi)
  refine ⟨h.1.put _ _, fun M j hM hj => ?_⟩
  obtain ⟨h1, h2, h3⟩ := h.2 M j hM hj
  by_cases e : M = L ∧ j = i
  · obtain ⟨rfl, rfl⟩ := e
    refine ⟨fun _ => has_put_same h.1 hk _, fun g => absurd rfl (g ((M, j), n) (by simp)), fun m hm z => ?_⟩
    rw [atKey_put_same h.1 hk]
    rcases List.mem_append.1 hm with hm | hm
    · exact absurd rfl (hnew _ hm)
    · have := List.mem_singleton.1 hm
      injection this with _ e2
      rw [e2]
  · have hne : pkl M j ≠ pkl L i := pkl_ne hM hj hL hi e
    refine ⟨fun ⟨q, hq, hqe⟩ => ?_, fun g => ?_, fun m hm z => ?_⟩
    · rw [has_put_other hne]
      rcases List.mem_append.1 hq with hq | hq
      · exact h1 ⟨q, hq, hqe⟩
      · rw [List.mem_singleton] at hq
        subst hq
        injection hqe with e1 e2
        exact absurd ⟨e1.symm, e2.symm⟩ e
    · rw [has_put_other hne]
      obtain ⟨g1, g2⟩ := h2 (fun q hq => g q (List.mem_append_left _ hq))
      exact ⟨g1, fun z => by rw [atKey_put_other hne]; exact g2 z⟩
    · rw [atKey_put_other hne]
      rcases List.mem_append.1 hm with hm | hm
      · exact h3 m hm z
      · have := List.mem_singleton.1 hm
        injection this with e1 e2
        injection e1 with e1 e3
        exact absurd ⟨e1, e3⟩ e
end Go.Proofs.YtkflggojiiebeaaGreat.Hvy

namespace Go.Proofs.YtkflggojiiebeaaGreat.Hvy
open Go Go.RowKit Go.Maps Lw Grd Lin Con Shp Sk Exa Lev Stk Pcs Spn Qnt
set_option linter.unusedVariables false
set_option linter.unusedSimpArgs false
/-- What the closure only reads. -/
structure CTI (tb mb bb gb lb sb kb N : Nat) (BB : Nat) (D : DataW Unit) (least : Int) (fn : Value) (w : World) : Prop where
  tcell : w.cell? ⟨tb, 0, none⟩ = some (.map (some mb))
  tmap : w.ownsMap Tryz.prog 82 (plainElem Tryz.prog 2) mb 5000 D
  bcell : w.cell? ⟨bb, 0, none⟩ = some (.int .i64 (BB : Int))
  gcell : w.cell? ⟨gb, 0, none⟩ = some fn
  lcell : w.cell? ⟨lb, 0, none⟩ = some (.int .i64 least)
  scell : w.cell? ⟨sb, 0, none⟩ = some (.slice (some ⟨kb, 0, none⟩) N N)
def ctF (tb mb bb gb lb sb : Nat) (k : Nat) : Prop := k = tb ∨ k = mb ∨ k = bb ∨ k = gb ∨ k = lb ∨ k = sb
theorem CTI.lt {tb mb bb gb lb sb kb N BB : Nat} {D : DataW Unit} {least : Int} {fn : Value} {w : World} (h : CTI tb mb bb gb lb sb kb N BB D least fn w) : ∀ k, ctF tb mb bb gb lb sb k → k < w.heap.size := by
  rintro k (rfl | rfl | rfl | rfl | rfl | rfl)
  · exact cell_lt h.tcell
  · exact h.tmap.lt
  · exact cell_lt h.bcell
  · exact cell_lt h.gcell
  · exact cell_lt h.lcell
  · exact cell_lt h.scell
end Go.Proofs.YtkflggojiiebeaaGreat.Hvy

