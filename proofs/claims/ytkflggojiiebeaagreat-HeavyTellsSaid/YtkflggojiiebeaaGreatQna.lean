/- Texts that statements lean on, put together: HvyMath, HvyAsk, HvyRef. -/
import Derived.Test.YtkflggojiiebeaaGreatQaa
import Derived.Test.YtkflggojiiebeaaGreatQab
import Derived.Test.YtkflggojiiebeaaGreatQac
import Derived.Test.YtkflggojiiebeaaGreatQad
import Derived.Test.YtkflggojiiebeaaGreatQae
import Derived.Test.YtkflggojiiebeaaGreatQaf
import Derived.Test.YtkflggojiiebeaaGreatQba
import Derived.Test.YtkflggojiiebeaaGreatQca
import Derived.Test.YtkflggojiiebeaaGreatQcb
import Derived.Test.YtkflggojiiebeaaGreatQga
import Derived.Test.YtkflggojiiebeaaGreatRows
import Derived.WalkKit
import Derived.ProofKit
import Derived.OpenShut
import Derived.DataShut
import Derived.Lib.SmallJoins
import Derived.Handy
import Derived.WalkSmall
import Derived.Deep.Draws
import Derived.WalkSpells
import Derived.Laws.AppendOwnNone
import Derived.Deep.AppendLies
import Derived.Lib.Hide
import Derived.Deep.MidRow
import Derived.Laws.BitsAllLaws
import Derived.WalkMore
import Derived.Deep.LoopGhost
import Derived.Deep.RegionHeld3
import Derived.Deep.QuietTactic
import Derived.BigQuiet
import Derived.Laws.Cover3
import Derived.Shelf.Spec.BitsCarry
import Derived.Laws.OwnMore
import Derived.Deep.DeepCutAuto
import Derived.Laws.EntriesVeiled
import Derived.Deep.CutRange
import Derived.Maps.AppendAt
namespace Go.Proofs.YtkflggojiiebeaaGreat.Con
end Go.Proofs.YtkflggojiiebeaaGreat.Con
namespace Go.Proofs.YtkflggojiiebeaaGreat.Exa
end Go.Proofs.YtkflggojiiebeaaGreat.Exa
namespace Go.Proofs.YtkflggojiiebeaaGreat.Fld
end Go.Proofs.YtkflggojiiebeaaGreat.Fld
namespace Go.Proofs.YtkflggojiiebeaaGreat.Grd
end Go.Proofs.YtkflggojiiebeaaGreat.Grd
namespace Go.Proofs.YtkflggojiiebeaaGreat.Hsh
end Go.Proofs.YtkflggojiiebeaaGreat.Hsh
namespace Go.Proofs.YtkflggojiiebeaaGreat.Hvy
end Go.Proofs.YtkflggojiiebeaaGreat.Hvy
namespace Go.Proofs.YtkflggojiiebeaaGreat.Inn
end Go.Proofs.YtkflggojiiebeaaGreat.Inn
namespace Go.Proofs.YtkflggojiiebeaaGreat.Lev
end Go.Proofs.YtkflggojiiebeaaGreat.Lev
namespace Go.Proofs.YtkflggojiiebeaaGreat.Lin
end Go.Proofs.YtkflggojiiebeaaGreat.Lin
namespace Go.Proofs.YtkflggojiiebeaaGreat.Lw
end Go.Proofs.YtkflggojiiebeaaGreat.Lw
namespace Go.Proofs.YtkflggojiiebeaaGreat.Ord
end Go.Proofs.YtkflggojiiebeaaGreat.Ord
namespace Go.Proofs.YtkflggojiiebeaaGreat.Pcs
end Go.Proofs.YtkflggojiiebeaaGreat.Pcs
namespace Go.Proofs.YtkflggojiiebeaaGreat.Qnt
end Go.Proofs.YtkflggojiiebeaaGreat.Qnt
namespace Go.Proofs.YtkflggojiiebeaaGreat.Sed
end Go.Proofs.YtkflggojiiebeaaGreat.Sed
namespace Go.Proofs.YtkflggojiiebeaaGreat.Shp
end Go.Proofs.YtkflggojiiebeaaGreat.Shp
namespace Go.Proofs.YtkflggojiiebeaaGreat.Sk
end Go.Proofs.YtkflggojiiebeaaGreat.Sk
namespace Go.Proofs.YtkflggojiiebeaaGreat.Smr
end Go.Proofs.YtkflggojiiebeaaGreat.Smr
namespace Go.Proofs.YtkflggojiiebeaaGreat.Spn
end Go.Proofs.YtkflggojiiebeaaGreat.Spn
namespace Go.Proofs.YtkflggojiiebeaaGreat.Stk
end Go.Proofs.YtkflggojiiebeaaGreat.Stk
namespace Go.Proofs.YtkflggojiiebeaaGreat.Wid
end Go.Proofs.YtkflggojiiebeaaGreat.Wid
namespace Go.Proofs.YtkflggojiiebeaaGreat.Hvy
open Go Go.RowKit Lw Grd Lin Con Shp Sk Exa Lev Stk Pcs Spn Qnt
set_option linter.unusedVariables false
theorem halvesQ_nil (pt : Nat → Int → Int) (least : Int) (L : Nat) : halvesQ pt least L [] = [] := rfl
end Go.Proofs.YtkflggojiiebeaaGreat.Hvy

namespace Go.Proofs.YtkflggojiiebeaaGreat.Hvy
open Go Go.RowKit Lw Grd Lin Con Shp Sk Exa Lev Stk Pcs Spn Qnt
set_option linter.unusedVariables false
/-- All that was asked of the levels down to this one. -/
def allA (pt : Nat → Int → Int) (least : Int) (B : Nat) : Nat → List (Nat × Nat)
  | 0 => [(B, 0)]
  | d + 1 => allA pt least B d ++ (askQ pt least B (d + 1)).map (fun i => (B - (d + 1), i))
/-- What is asked when t pieces of level B - d are gone through. -/
def rowA (pt : Nat → Int → Int) (least : Int) (B d t : Nat) : List (Nat × Nat) := allA pt least B d ++ (if d < B then (halvesQ pt least (B - d) ((askQ pt least B d).take t)).map (fun i => (B - (d + 1), i)) else [])
def outA (pt : Nat → Int → Int) (least : Int) (B d t : Nat) : List ((Nat × Nat) × Int) := foundQ pt least B d ++ tellQ pt least (B - d) ((askQ pt least B d).take t)
theorem allA_len (pt : Nat → Int → Int) (least : Int) (B : Nat) : ∀ d : Nat, (allA pt least B d).length = countQ pt least B (d + 1)
  | 0 => rfl
  | d + 1 => by
    rw [allA, List.length_append, List.length_map, allA_len pt least B d]
    rfl
theorem rowA_0 (pt : Nat → Int → Int) (least : Int) (B d : Nat) : rowA pt least B d 0 = allA pt least B d := by
  unfold rowA
  rw [List.take_zero, halvesQ_nil, List.map_nil, ite_self, List.append_nil]
theorem outA_0 (pt : Nat → Int → Int) (least : Int) (B d : Nat) : outA pt least B d 0 = foundQ pt least B d := by
  unfold outA
  rw [List.take_zero]
  show foundQ pt least B d ++ tellQ pt least (B - d) [] = _
  unfold tellQ
  simp
/-- A level is gone through: the next one. -/
theorem rowA_next {pt : Nat → Int → Int} {least : Int} {B d t : Nat} (hd : d < B) (ht : (askQ pt least B d).length ≤ t) : rowA pt least B d t = rowA pt least B (d + 1) 0 := by
  rw [rowA_0]
  unfold rowA
  rw [if_pos hd, List.take_of_length_le ht]
  rfl
theorem outA_next {pt : Nat → Int → Int} {least : Int} {B d t : Nat} (ht : (askQ pt least B d).length ≤ t) : outA pt least B d t = outA pt least B (d + 1) 0 := by
  rw [outA_0]
  unfold outA
  rw [List.take_of_length_le ht]
  rfl
theorem allA_at (pt : Nat → Int → Int) (least : Int) (B : Nat) {t i : Nat} : ∀ {d : Nat}, (askQ pt least B d)[t]? = some i → (allA pt least B d)[countQ pt least B d + t]? = some (B - d, i)
  | 0, h => by
    cases t with
    | zero =>
      have h2 : (0 : Nat) = i := by simpa [askQ] using h
      subst h2
      rfl
    | succ t => simp [askQ] at h
  | d + 1, h => by
    rw [allA, List.getElem?_append_right (by rw [allA_len]; omega), allA_len, List.getElem?_map]
    have e : countQ pt least B (d + 1) + t - countQ pt least B (d + 1) = t := by omega
    rw [e, h]
    rfl
/-- The next piece. -/
theorem rowA_at {pt : Nat → Int → Int} {least : Int} {B d t i : Nat} (h : (askQ pt least B d)[t]? = some i) : (rowA pt least B d t)[countQ pt least B d + t]? = some (B - d, i) := by
  have h2 := allA_at pt least B h
  unfold rowA
  rw [List.getElem?_append_left (List.getElem?_eq_some_iff.1 h2).1]
  exact h2
theorem rowA_no {pt : Nat → Int → Int} {least : Int} {B d t i : Nat} (h : (askQ pt least B d)[t]? = some i) (hn : ¬ least ≤ pt (B - d) ((i : Nat) : Int)) : rowA pt least B d (t + 1) = rowA pt least B d t ∧ outA pt least B d (t + 1) = outA pt least B d t := by
  unfold rowA outA
  rw [take_next h, halvesQ_app, tellQ_app, halvesQ_no hn, tellQ_no hn, List.append_nil, List.append_nil]
  exact ⟨rfl, rfl⟩
theorem outA_yes {pt : Nat → Int → Int} {least : Int} {B d t i : Nat} (h : (askQ pt least B d)[t]? = some i) (hy : least ≤ pt (B - d) ((i : Nat) : Int)) : outA pt least B d (t + 1) = outA pt least B d t ++ [((B - d, i), pt (B - d) ((i : Nat) : Int))] := by
  unfold outA
  rw [take_next h, tellQ_app, tellQ_yes hy, List.append_assoc]
theorem rowA_yes {pt : Nat → Int → Int} {least : Int} {B d t i : Nat} (h : (askQ pt least B d)[t]? = some i) (hy : least ≤ pt (B - d) ((i : Nat) : Int)) (hd : d < B) : rowA pt least B d (t + 1) = rowA pt least B d t ++ [(B - (d + 1), 2 * i), (B - (d + 1), 2 * i + 1)] := by
  unfold rowA
  rw [if_pos hd, if_pos hd, take_next h, halvesQ_app, halvesQ_yes hy, List.map_append, List.append_assoc]
  rfl
theorem rowA_last {pt : Nat → Int → Int} {least : Int} {B t u : Nat} : rowA pt least B B t = rowA pt least B B u := by
  unfold rowA
  rw [if_neg (by omega), if_neg (by omega)]
theorem rowA_len {pt : Nat → Int → Int} {least : Int} {B d t : Nat} : (rowA pt least B d t).length = countQ pt least B (d + 1) + (if d < B then (halvesQ pt least (B - d) ((askQ pt least B d).take t)).length else 0) := by
  unfold rowA
  rw [List.length_append, allA_len]
  split
  · rw [List.length_map]
  · rfl
theorem halves_take (pt : Nat → Int → Int) (least : Int) (L t : Nat) (l : List Nat) : (halvesQ pt least L (l.take t)).length ≤ (halvesQ pt least L l).length := by
  have h : halvesQ pt least L l = halvesQ pt least L (l.take t) ++ halvesQ pt least L (l.drop t) := by rw [← halvesQ_app, List.take_append_drop]
  rw [h, List.length_append]
  omega
/-- No more are asked than are asked in the end. -/
theorem rowA_le {pt : Nat → Int → Int} {least : Int} {B d t : Nat} (hd : d ≤ B) : (rowA pt least B d t).length ≤ countQ pt least B (B + 1) := by
  rw [rowA_len]
  by_cases h : d < B
  · rw [if_pos h]
    have h1 := halves_take pt least (B - d) t (askQ pt least B d)
    have h2 : countQ pt least B (d + 2) = countQ pt least B (d + 1) + (halvesQ pt least (B - d) (askQ pt least B d)).length := rfl
    have h3 := countQ_mono pt least B (show d + 2 ≤ B + 1 by omega)
    omega
  · rw [if_neg h]
    have e : d = B := by omega
    subst e
    exact Nat.le_refl _
theorem ask_none {pt : Nat → Int → Int} {least : Int} {B d : Nat} (h : askQ pt least B d = []) : ∀ e : Nat, askQ pt least B (d + e) = []
  | 0 => h
  | e + 1 => by
    show halvesQ pt least (B - (d + e)) (askQ pt least B (d + e)) = []
    rw [ask_none h e]
    rfl
theorem count_none {pt : Nat → Int → Int} {least : Int} {B d : Nat} (h : askQ pt least B d = []) : ∀ e : Nat, countQ pt least B (d + e) = countQ pt least B d ∧ foundQ pt least B (d + e) = foundQ pt least B d
  | 0 => ⟨rfl, rfl⟩
  | e + 1 => by
    have ih := count_none h e
    have h2 := ask_none h e
    constructor
    · show countQ pt least B (d + e) + (askQ pt least B (d + e)).length = _
      rw [h2, ih.1]
      rfl
    · show foundQ pt least B (d + e) ++ tellQ pt least (B - (d + e)) (askQ pt least B (d + e)) = _
      rw [h2, ih.2]
      show _ ++ tellQ pt least (B - (d + e)) [] = _
      unfold tellQ
      simp
/-- All that was asked is gone through. -/
theorem rowA_end {pt : Nat → Int → Int} {least : Int} {B d t : Nat} (hd : d ≤ B) (ht : t ≤ (askQ pt least B d).length) (h : (rowA pt least B d t).length ≤ countQ pt least B d + t) : (rowA pt least B d t).length = countQ pt least B (B + 1) ∧ outA pt least B d t = foundQ pt least B (B + 1) := by
  have hc : countQ pt least B (d + 1) = countQ pt least B d + (askQ pt least B d).length := rfl
  have hl := rowA_len (pt := pt) (least := least) (B := B) (d := d) (t := t)
  by_cases hdB : d < B
  · rw [if_pos hdB] at hl
    have et : t = (askQ pt least B d).length := by omega
    have e0 : (halvesQ pt least (B - d) ((askQ pt least B d).take t)).length = 0 := by omega
    rw [et, List.take_length] at e0
    have e1 : askQ pt least B (d + 1) = [] := List.eq_nil_of_length_eq_zero e0
    obtain ⟨c1, c2⟩ := count_none e1 (B + 1 - (d + 1))
    have e2 : d + 1 + (B + 1 - (d + 1)) = B + 1 := by omega
    rw [e2] at c1 c2
    rw [c1, c2]
    refine ⟨by rw [hl, et, List.take_length, e0]; exact Nat.add_zero _, ?_⟩
    rw [outA_next (by omega), outA_0]
  · have e : d = B := by omega
    subst e
    rw [if_neg (by omega)] at hl
    have et : t = (askQ pt least d d).length := by omega
    refine ⟨hl, ?_⟩
    rw [outA_next (by omega), outA_0]
/-- Some piece is still to be asked: its level. -/
theorem rowA_more {pt : Nat → Int → Int} {least : Int} {B d t : Nat} (hd : d ≤ B) (ht : t ≤ (askQ pt least B d).length) (h : countQ pt least B d + t < (rowA pt least B d t).length) :
    ∃ d' t', d' ≤ B ∧ t' < (askQ pt least B d').length ∧ countQ pt least B d' + t' = countQ pt least B d + t ∧ rowA pt least B d' t' = rowA pt least B d t ∧ outA pt least B d' t' = outA pt least B d t := by
  by_cases h1 : t < (askQ pt least B d).length
  · exact ⟨d, t, hd, h1, rfl, rfl, rfl⟩
  · have et : t = (askQ pt least B d).length := by omega
    have hc : countQ pt least B (d + 1) = countQ pt least B d + (askQ pt least B d).length := rfl
    have hl := rowA_len (pt := pt) (least := least) (B := B) (d := d) (t := t)
    by_cases hdB : d < B
    · rw [if_pos hdB] at hl
      have e0 : (halvesQ pt least (B - d) ((askQ pt least B d).take t)).length = (askQ pt least B (d + 1)).length := by rw [et, List.take_length]; rfl
      exact ⟨d + 1, 0, by omega, by omega, by omega, (rowA_next hdB (by omega)).symm, (outA_next (by omega)).symm⟩
    · rw [if_neg hdB] at hl
      omega
/-- How many are asked at most. -/
theorem rowA_in {pt : Nat → Int → Int} {least : Int} {B d t : Nat} (hd : d ≤ B) : ∀ p ∈ rowA pt least B d t, p.1 ≤ B ∧ p.2 < 2 ^ (B - p.1) := by
  have hall : ∀ e : Nat, e ≤ B → ∀ p ∈ allA pt least B e, p.1 ≤ B ∧ p.2 < 2 ^ (B - p.1) := by
    intro e
    induction e with
    | zero =>
      intro _ p hp
      obtain rfl : p = (B, 0) := List.mem_singleton.1 hp
      exact ⟨Nat.le_refl _, Nat.two_pow_pos _⟩
    | succ e ih =>
      intro he p hp
      rw [allA, List.mem_append] at hp
      rcases hp with hp | hp
      · exact ih (by omega) p hp
      · obtain ⟨i, hi, rfl⟩ := List.mem_map.1 hp
        have h2 := askQ_lt hi
        show B - (e + 1) ≤ B ∧ i < 2 ^ (B - (B - (e + 1)))
        rw [show B - (B - (e + 1)) = e + 1 by omega]
        exact ⟨by omega, h2⟩
  intro p hp
  unfold rowA at hp
  rw [List.mem_append] at hp
  rcases hp with hp | hp
  · exact hall d hd p hp
  · by_cases h : d < B
    · rw [if_pos h] at hp
      obtain ⟨i, hi, rfl⟩ := List.mem_map.1 hp
      have h3 : i ∈ askQ pt least B (d + 1) := by
        have h4 := (mem_halvesQ.1 hi)
        exact mem_halvesQ.2 ⟨List.mem_of_mem_take h4.1, h4.2⟩
      have h2 := askQ_lt h3
      show B - (d + 1) ≤ B ∧ i < 2 ^ (B - (B - (d + 1)))
      rw [show B - (B - (d + 1)) = d + 1 by omega]
      exact ⟨by omega, h2⟩
    · rw [if_neg h] at hp
      simp at hp
theorem outA_len (pt : Nat → Int → Int) (least : Int) (B d t : Nat) : (outA pt least B d t).length ≤ countQ pt least B d + t := by
  unfold outA
  rw [List.length_append]
  have h1 := foundQ_le pt least B d
  have h2 : (tellQ pt least (B - d) ((askQ pt least B d).take t)).length ≤ ((askQ pt least B d).take t).length := by
    unfold tellQ
    rw [List.length_map]
    exact List.length_filter_le _ _
  have h3 : ((askQ pt least B d).take t).length ≤ t := by rw [List.length_take]; omega
  omega
end Go.Proofs.YtkflggojiiebeaaGreat.Hvy

namespace Go.Proofs.YtkflggojiiebeaaGreat.Hvy
open Go Go.RowKit Lw Grd Lin Con Shp Sk Exa Lev Stk Pcs Spn Qnt
set_option linter.unusedVariables false
set_option linter.unusedSimpArgs false
theorem fd_info : (Tryz.prog.info? 84).map (fun i => (i.zero, i.size, i.bytes)) = some (some (.agg #[.int .i64 0, .int .u64 0, .int .i64 0]), 3, 24) := by kernel_rfl
theorem fds_u : Tryz.prog.underlying 42 = some (.slice 84) := by kernel_rfl
theorem enc_one1 (a b v : Int) : ∀ u ∈ ([.int .i64 a, .int .u64 b, .int .i64 v] : List Value), u.oneCell' = true := by
  intro u hu
  simp at hu
  rcases hu with rfl | rfl | rfl <;> rfl
theorem pc_two (a b x y : Int) : ∀ u ∈ ([.int .i64 a, .int .u64 b, .int .i64 x, .int .u64 y] : List Value), u.oneCell' = true := by
  intro u hu
  simp at hu
  rcases hu with rfl | rfl | rfl | rfl <;> rfl
theorem own_pc1h (X : World) (U D : Int) (base : Nat) (hb : base ≤ X.heap.size) : (X.alloc (.cells #[.int .i64 U, .int .u64 D] 82)).ownsRow base 82 2 (.slice (some ⟨X.heap.size, 0, none⟩) 1 1) 1 [.int .i64 U, .int .u64 D] :=
  ⟨rfl, .inr ⟨X.heap.size, 1, _, rfl, hb, heap_alloc_new X _, Nat.le_refl _, by decide, rfl, rfl⟩⟩
theorem flat_enc_snoc (l : List ((Nat × Nat) × Int)) (q : (Nat × Nat) × Int) : (l ++ [q]).flatMap encF = l.flatMap encF ++ encF q := flat_snoc encF l q
theorem flatP_two (l : List (Nat × Nat)) (p q : Nat × Nat) : flatP (ints (l ++ [p, q])) = flatP (ints l) ++ [.int .i64 (p.1 : Int), .int .u64 (p.2 : Int), .int .i64 (q.1 : Int), .int .u64 (q.2 : Int)] := by
  have e : l ++ [p, q] = (l ++ [p]) ++ [q] := by simp
  rw [e, ints_app, ints_app]
  show flatP ((ints l ++ [((p.1 : Int), (p.2 : Int))]) ++ [((q.1 : Int), (q.2 : Int))]) = _
  rw [flatP_snoc, flatP_snoc, List.append_assoc]
  rfl
theorem row_bd {pt : Nat → Int → Int} {least : Int} {B d t : Nat} (hd : d ≤ B) (hB : B ≤ 59) : ∀ u ∈ ints (rowA pt least B d t), (-9223372036854775808 ≤ u.1 ∧ u.1 ≤ 9223372036854775807) ∧ (0 ≤ u.2 ∧ u.2 ≤ 18446744073709551615) := by
  intro u hu
  obtain ⟨p, hp, rfl⟩ := List.mem_map.1 hu
  obtain ⟨h1, h2⟩ := rowA_in hd p hp
  have h3 : 2 ^ (B - p.1) ≤ 2 ^ 59 := Nat.pow_le_pow_right (by omega) (by omega)
  have e59 : (2 : Nat) ^ 59 = 576460752303423488 := rfl
  refine ⟨⟨?_, ?_⟩, ?_, ?_⟩
  · show -9223372036854775808 ≤ (p.1 : Int); omega
  · show (p.1 : Int) ≤ 9223372036854775807; omega
  · show 0 ≤ (p.2 : Int); omega
  · show (p.2 : Int) ≤ 18446744073709551615; omega
theorem half_nums {LM LV ix I2 : Nat} (h0 : LV = LM + 1) (h1 : LV ≤ 59) (h2 : ix < 576460752303423488) (h3 : 2 * ix = I2) : wrap64 ((LV : Int) - 1) = (LM : Int) ∧ IntKind.i64.wrap ((LV : Int) - 1) = (LM : Int) ∧ IntKind.u64.wrap (2 * (ix : Int)) = (I2 : Int) ∧ IntKind.u64.wrap ((I2 : Int) + 1) = (I2 : Int) + 1 :=
  ⟨(IntWalk.wrap64_in _ ⟨by omega, by omega⟩).trans (by omega), (IntWalk.i64_in _ ⟨by omega, by omega⟩).trans (by omega), by rw [IntKind.wrap_u64]; omega, by rw [IntKind.wrap_u64]; omega⟩
theorem turn1K {w0 w w' : World} {t0 : Thing} {B K n g m cap : Nat} {e : TypeId} {v : Value} {cs ds : List Value} {ts : List Thing} (h : Have w0 w (t0 :: ownK B e K v n cs :: ts)) (hown : w'.ownsRow B e K (.slice (some ⟨g, 0, none⟩) m cap) m ds) (hg : w.grownBy w' v.ownBlock) (hat : v.ownBlock = some g ∨ g = w.heap.size) : Have w0 w' (t0 :: ownK B e K (.slice (some ⟨g, 0, none⟩) m cap) m ds :: ts) := h.turn_1 _ hown (kept_grownK hg) (okF hat)
theorem turn2K {w0 w w' : World} {t0 t1 : Thing} {B K n g m cap : Nat} {e : TypeId} {v : Value} {cs ds : List Value} {ts : List Thing} (h : Have w0 w (t0 :: t1 :: ownK B e K v n cs :: ts)) (hown : w'.ownsRow B e K (.slice (some ⟨g, 0, none⟩) m cap) m ds) (hg : w.grownBy w' v.ownBlock) (hat : v.ownBlock = some g ∨ g = w.heap.size) : Have w0 w' (t0 :: t1 :: ownK B e K (.slice (some ⟨g, 0, none⟩) m cap) m ds :: ts) := h.turn_2 _ hown (kept_grownK hg) (okF hat)
theorem box2r {w : World} {b : Nat} {e : TypeId} {v0 v1 : Value} (h : (boxT b e #[v0, v1]).I w) : w.cell? ⟨b, 0, none⟩ = some v0 ∧ w.cell? ⟨b, 1, none⟩ = some v1 := ⟨box_cell h rfl, box_cell h rfl⟩
set_option maxRecDepth 100000 in
set_option maxHeartbeats 4000000 in
theorem rheavy_a (r : Addr) (F : Nat → Prop) (c : Cfg) (sts : List LS) (least bud : Int) (w : World) (h : DK w r F c sts) (hin : ∀ n i : Int, -9223372036854775808 ≤ spV c sts n i ∧ spV c sts n i ≤ 9223372036854775807) (l0 : -9223372036854775808 ≤ least) (l1 : least ≤ 9223372036854775807) (u0 : -9223372036854775808 ≤ bud) (u1 : bud ≤ 9223372036854775807) (h1 : least < 1 ∨ 4096 < bud) :
    Calls Tryz.prog 18 #[.pointer (some r), .int .i64 least, .int .i64 bud] w fun e w' => ∃ (A : Option Addr) (n cap : Nat), e = .returned (.tuple #[.slice A n cap, .int .i64 (hvC c (fun L i => spV c sts (L : Int) i) least bud)]) ∧ (stRowT 3 encF A n cap (hvL c (fun L i => spV c sts (L : Int) i) least bud)).I w' ∧ (∀ q, (stRowT 3 encF A n cap (hvL c (fun L i => spV c sts (L : Int) i) least bud)).F q → w.heap.size ≤ q) ∧ Below w.heap.size w w' := by
  have hq := hv_arg (c := c) (pt := (fun L i => spV c sts (L : Int) i)) h1
  rw [hq.1, hq.2]
  by_cases h2 : least < 1
  · have f1 : decide (least < 1) = true := decide_eq_true h2
    clear h hin l0 l1 u0 u1 h1 hq
    go_enter Tryz.func18, Tryz.ntmps18
    go_wp2
    refine bodyPost_ret (v := .tuple #[.slice none 0 0, .int .i64 1]) (by simp [results, Tryz.results18, go_sem]) rfl ?_
    exact ⟨none, 0, 0, rfl, st_nil 3 encF _, (fun q hq => by obtain ⟨a, e, _⟩ := hq; cases e), Below.refl _ _⟩
  · have h3 : 4096 < bud := by omega
    have f1 : decide (least < 1) = false := decide_eq_false h2
    have f2 : decide (4096 < bud) = true := decide_eq_true h3
    clear h hin l0 l1 u0 u1 h1 hq
    go_enter Tryz.func18, Tryz.ntmps18
    go_wp2
    refine bodyPost_ret (v := .tuple #[.slice none 0 0, .int .i64 1]) (by simp [results, Tryz.results18, go_sem]) rfl ?_
    exact ⟨none, 0, 0, rfl, st_nil 3 encF _, (fun q hq => by obtain ⟨a, e, _⟩ := hq; cases e), Below.refl _ _⟩
set_option maxRecDepth 100000 in
set_option maxHeartbeats 8000000 in
theorem rheavy_m (r : Addr) (F : Nat → Prop) (c : Cfg) (sts : List LS) (least bud : Int) (w : World) (h : DK w r F c sts) (hin : ∀ n i : Int, -9223372036854775808 ≤ spV c sts n i ∧ spV c sts n i ≤ 9223372036854775807) (l0 : -9223372036854775808 ≤ least) (l1 : least ≤ 9223372036854775807) (u0 : -9223372036854775808 ≤ bud) (u1 : bud ≤ 9223372036854775807) (h1 : 1 ≤ least) (h2 : bud ≤ 4096) :
    Calls Tryz.prog 18 #[.pointer (some r), .int .i64 least, .int .i64 bud] w fun e w' => ∃ (A : Option Addr) (n cap : Nat), e = .returned (.tuple #[.slice A n cap, .int .i64 (hvC c (fun L i => spV c sts (L : Int) i) least bud)]) ∧ (stRowT 3 encF A n cap (hvL c (fun L i => spV c sts (L : Int) i) least bud)).I w' ∧ (∀ q, (stRowT 3 encF A n cap (hvL c (fun L i => spV c sts (L : Int) i) least bud)).F q → w.heap.size ≤ q) ∧ Below w.heap.size w w' := by
  have hr := h.1
  have hbt := hr.1
  have hbt2 := hr.2.1
  have HOV := Lib.hid (fun hh => hv_over (c := c) (pt := (fun L i => spV c sts (L : Int) i)) (least := least) (bud := bud) h1 h2 hh)
  have HYES := Lib.hid (fun hh => hv_yes (c := c) (pt := (fun L i => spV c sts (L : Int) i)) (least := least) (bud := bud) h1 h2 hh)
  obtain ⟨b, rfl, d0, dlt⟩ := dk_bt h
  have CPT := Lib.hid (fun n i w hs n0 n1 i0 i1 => dk_point ⟨b, 0, none⟩ F c sts n i w hs n0 n1 i0 i1)
  have HD := Lib.hid h
  have HIN := Lib.hid hin
  obtain ⟨BB, hBB⟩ : ∃ B, c.bt.toNat = B := ⟨_, rfl⟩
  rw [hBB] at HOV HYES
  have hcb : c.bt = (BB : Int) := by omega
  have hb59 : BB ≤ 59 := by omega
  rw [hcb] at d0
  have f1 : decide (least < 1) = false := decide_eq_false (by omega)
  have f2 : decide (4096 < bud) = false := decide_eq_false (by omega)
  have f3 : ¬ least < 1 := by omega
  have f4 : ¬ 4096 < bud := by omega
  obtain ⟨i0, hi_, hz0, hz1, hz2⟩ := info_parts pc_info
  obtain ⟨j0, hj_, hy0, hy1, hy2⟩ := info_parts fd_info
  have HU2 := Lib.hid h2
  clear h hin hr hbt hbt2 hBB hcb h1 l0 l1 u0 u1 h2
  go_enter Tryz.func18, Tryz.ntmps18
  go_wp2
  have HV1 : Hid (Have w (w.alloc (.cells #[.int .i64 (BB : Int), .int .u64 0] 82)) [ownK w.heap.size 82 2 (.slice (some ⟨w.heap.size, 0, none⟩) 1 1) 1 [.int .i64 (BB : Int), .int .u64 0]]) := Lib.hid ((Have.nil w).push (ownK w.heap.size 82 2 (.slice (some ⟨w.heap.size, 0, none⟩) 1 1) 1 [.int .i64 (BB : Int), .int .u64 0]) (Lw.below_alloc (Below.refl _ _) _) (own_pc1h w (BB : Int) 0 w.heap.size (Nat.le_refl _)) (fun k hk => by have : some w.heap.size = some k := hk; injection this with this; omega))
  have HV2 : Hid (Have w ((w.alloc (.cells #[.int .i64 (BB : Int), .int .u64 0] 82)).alloc (.cells #[] 84)) [ownK w.heap.size 84 3 (.slice (some ⟨w.heap.size + 1, 0, none⟩) 0 0) 0 [], ownK w.heap.size 82 2 (.slice (some ⟨w.heap.size, 0, none⟩) 1 1) 1 [.int .i64 (BB : Int), .int .u64 0]]) := Lib.hid (HV1.out.push (ownK w.heap.size 84 3 (.slice (some ⟨w.heap.size + 1, 0, none⟩) 0 0) 0 []) (Lw.below_alloc (Below.refl _ _) _) (by have h := own_empty (w.alloc (.cells #[.int .i64 (BB : Int), .int .u64 0] 82)) 84 3 w.heap.size (by simp); show World.ownsRow _ _ _ _ _ _ _; simpa using h) (fun k hk => by have : some (w.heap.size + 1) = some k := hk; injection this with this; simp; omega))
  clear f1 f2 f3 f4 d0 dlt HV1
  go_loopw [8, 9, 10] (fun av ov iv wr => ∃ (d t : Nat), d ≤ BB ∧ t ≤ (askQ (fun L i => spV c sts (L : Int) i) least BB d).length ∧ iv = .int .i64 ((countQ (fun L i => spV c sts (L : Int) i) least BB d + t : Nat) : Int) ∧ Have w wr [ownK w.heap.size 84 3 ov (outA (fun L i => spV c sts (L : Int) i) least BB d t).length ((outA (fun L i => spV c sts (L : Int) i) least BB d t).flatMap encF), ownK w.heap.size 82 2 av (rowA (fun L i => spV c sts (L : Int) i) least BB d t).length (flatP (ints (rowA (fun L i => spV c sts (L : Int) i) least BB d t)))]) (fun _ _ iv _ => 5000 - (intOf iv).toNat)
  case atStart => exact ⟨0, 0, Nat.zero_le _, Nat.zero_le _, rfl, by rw [rowA_0, outA_0]; exact HV2.out⟩
  case round =>
    obtain ⟨d, t, hd, ht, rfl, hv⟩ := hrel
    have HVr := Lib.hid hv
    have HDR := Lib.hid (HD.out.up hv.below)
    clear hv
    by_cases hmore : countQ (fun L i => spV c sts (L : Int) i) least BB d + t < (rowA (fun L i => spV c sts (L : Int) i) least BB d t).length
    · obtain ⟨d', t', hd', ht', hc, hra, hoa⟩ := rowA_more hd ht hmore
      rw [← hc] at hmore
      rw [← hra] at hmore
      rw [← hra, ← hoa] at HVr
      rw [← hc]
      clear hc hra hoa hd ht d t
      obtain ⟨ix, hix⟩ : ∃ ix, (askQ (fun L i => spV c sts (L : Int) i) least BB d')[t']? = some ix := ⟨_, List.getElem?_eq_getElem ht'⟩
      have hat := rowA_at hix
      have hle := rowA_le (pt := (fun L i => spV c sts (L : Int) i)) (least := least) (B := BB) (d := d') (t := t') hd'
      have hol := outA_len (fun L i => spV c sts (L : Int) i) least BB d' t'
      have hixb := askQ_lt (List.mem_of_getElem? hix)
      obtain ⟨IV, hIV⟩ : ∃ n, countQ (fun L i => spV c sts (L : Int) i) least BB d' + t' = n := ⟨_, rfl⟩
      obtain ⟨NA, hNA⟩ : ∃ n, (rowA (fun L i => spV c sts (L : Int) i) least BB d' t').length = n := ⟨_, rfl⟩
      obtain ⟨NO, hNO⟩ : ∃ n, (outA (fun L i => spV c sts (L : Int) i) least BB d' t').length = n := ⟨_, rfl⟩
      rw [hNA, hNO] at HVr
      rw [hIV, hNA] at hmore
      rw [hIV, hNO] at hol
      rw [hIV] at hat
      rw [hNA] at hle
      rw [hIV]
      have HNA := Lib.hid hNA
      have HNO := Lib.hid hNO
      have HIV := Lib.hid hIV
      obtain ⟨AA, capA, rfl, hpc, hpf⟩ := pc_own (okI HVr.out.i1) (by rw [ints_len]; exact hNA) (row_bd hd' hb59)
      obtain ⟨AO, capO, rfl, hso, hsf⟩ := st_own encF_len (okI HVr.out.i0) hNO
      obtain ⟨aa, g, o, rfl, hadd, r0, r1, -, -⟩ := (pcI hpc).at (ints_get hat)
      simp only at r0 r1
      clear hpf hso hsf hpc hNA hNO hIV hat
      have lt1 : (IV : Int) < (NA : Int) := by omega
      have lt0 : (0 : Int) ≤ (IV : Int) := by omega
      by_cases hbud : bud < (NA : Int)
      · have HQ := Lib.hid (HOV.out (by clear hmore hol hixb; omega))
        have f1 : decide (bud < (NA : Int)) = true := decide_eq_true hbud
        clear hle hol hixb
        go_wp2
        refine bodyPost_ret (v := .tuple #[.slice none 0 0, .int .i64 7]) (by simp [results, Tryz.results18, go_sem]) rfl ?_
        rw [HQ.out.1, HQ.out.2]
        exact ⟨none, 0, 0, rfl, st_nil 3 encF _, (fun q hq => by obtain ⟨a, e, _⟩ := hq; cases e), HVr.out.below⟩
      · have f1 : decide (bud < (NA : Int)) = false := decide_eq_false hbud
        have n4 : NA ≤ 4096 := by have := HU2.out; clear hle hixb; omega
        obtain ⟨LV, hLV⟩ : ∃ n, BB - d' = n := ⟨_, rfl⟩
        rw [hLV] at r0
        have hlv59 : LV ≤ 59 := by clear hle hixb; omega
        have hix59 : ix < 2 ^ 59 := Nat.lt_of_lt_of_le hixb (Nat.pow_le_pow_right (by omega) (by clear hle hixb; omega))
        have e59 : (2 : Nat) ^ 59 = 576460752303423488 := rfl
        rw [e59] at hix59
        clear hixb e59 hle
        have CPJ := Lib.hid (fun w hs => CPT.out (LV : Int) (ix : Int) w hs (by omega) (by omega) (by omega) (by omega))
        have hvb := HIN.out (LV : Int) (ix : Int)
        have hno := rowA_no (pt := (fun L i => spV c sts (L : Int) i)) (least := least) (B := BB) hix
        have hou := outA_yes (pt := (fun L i => spV c sts (L : Int) i)) (least := least) (B := BB) hix
        rw [hLV] at hno hou
        obtain ⟨VV, hVV⟩ : ∃ v, spV c sts (LV : Int) (ix : Int) = v := ⟨_, rfl⟩
        obtain ⟨VC, hVC⟩ : ∃ v, spC c sts (LV : Int) (ix : Int) = v := ⟨_, rfl⟩
        have hye : least ≤ VV → d' < BB → rowA (fun L i => spV c sts (L : Int) i) least BB d' (t' + 1) = rowA (fun L i => spV c sts (L : Int) i) least BB d' t' ++ [(BB - (d' + 1), 2 * ix), (BB - (d' + 1), 2 * ix + 1)] := fun h h2 => rowA_yes (pt := (fun L i => spV c sts (L : Int) i)) (least := least) (B := BB) hix (by show least ≤ spV c sts ((BB - d' : Nat) : Int) (ix : Int); rw [hLV, hVV]; exact h) h2
        rw [hVV, hVC] at CPJ
        rw [hVV] at hvb
        have HNN := Lib.hid (show ¬ least ≤ VV → rowA (fun L i => spV c sts (L : Int) i) least BB d' (t' + 1) = rowA (fun L i => spV c sts (L : Int) i) least BB d' t' ∧ outA (fun L i => spV c sts (L : Int) i) least BB d' (t' + 1) = outA (fun L i => spV c sts (L : Int) i) least BB d' t' from fun h => hno (by show ¬ least ≤ spV c sts (LV : Int) (ix : Int); rw [hVV]; exact h))
        have HOU := Lib.hid (show least ≤ VV → outA (fun L i => spV c sts (L : Int) i) least BB d' (t' + 1) = outA (fun L i => spV c sts (L : Int) i) least BB d' t' ++ [((LV, ix), VV)] from fun h => by rw [← hVV]; exact hou (by show least ≤ spV c sts (LV : Int) (ix : Int); rw [hVV]; exact h))
        have HYE := Lib.hid hye
        have HHD := Lib.hid (And.intro hd' ht')
        have HLV := Lib.hid hLV
        have HIX := Lib.hid hix
        clear hno hou hye hVV hVC hLV hix hd' ht'
        by_cases hV : VV < least
        · have g1 : decide (VV < least) = true := decide_eq_true hV
          have HEQ := Lib.hid (HNN.out (by omega))
          go_wp2_with (go_at_call 56; (with_reducible refine (CPJ.out _ (HDR.out.up (Lw.below_alloc (Below.refl _ _) _))).mono ?_); rintro e w5 ⟨rfl, hb⟩; have HVb := Lib.hid (HVr.out.push (boxT wr.heap.size 82 #[.int .i64 (LV : Int), .int .u64 (ix : Int)]) (Lw.below_alloc (Below.refl _ _) _) (heap_alloc_new wr _) (fun k hk => Nat.le_of_eq hk.symm)); have HV5 := Lib.hid (HVb.out.up hb); clear hb; obtain ⟨y0, y1⟩ := box2r HV5.out.i0)
          go_roundw
          case rel => exact ⟨d', t' + 1, HHD.out.1, HHD.out.2, by rw [← HIV.out]; go_num, by rw [HEQ.out.1, HEQ.out.2, HNA.out, HNO.out]; exact HV5.out.drop_0.up (by repeat' (first | (with_reducible first | exact Below.refl _ _ | assumption | refine below_over ?_ _ _ | refine Lw.below_alloc ?_ _ | refine Below.drew ?_ | refine below_drewN ?_ _ | refine Below.setCell ?_ ?_ _) | go_size))⟩
          case measure => simp [intOf]; omega
        · have g1 : decide (VV < least) = false := decide_eq_false hV
          have HEQ := Lib.hid (HOU.out (by omega))
          go_upto_region 13 with (go_at_call 56; (with_reducible refine (CPJ.out _ (HDR.out.up (Lw.below_alloc (Below.refl _ _) _))).mono ?_); rintro e w5 ⟨rfl, hb⟩; have HVb := Lib.hid (HVr.out.push (boxT wr.heap.size 82 #[.int .i64 (LV : Int), .int .u64 (ix : Int)]) (Lw.below_alloc (Below.refl _ _) _) (heap_alloc_new wr _) (fun k hk => Nat.le_of_eq hk.symm)); have HV5 := Lib.hid (HVb.out.up hb); clear hb; obtain ⟨y0, y1⟩ := box2r HV5.out.i0)
          have hvo : NO ≤ 4096 := by clear hvb hix59; omega
          go_upto_region 14 with (at_builtin; go_must (refine wpList_append_lies _ rfl _ _ 42 rfl w.heap.size 84 j0 (.agg #[.int .i64 0, .int .u64 0, .int .i64 0]) 3 24 fds_u hj_ hy0 hy1 hy2 rfl (by decide) _ _ _ rfl ((okI HV5.out.i1).alloc _) ⟨_, 0, none⟩ 1 1 [.int .i64 (LV : Int), .int .u64 (ix : Int), .int .i64 VV] rfl rfl (World.news_of_block (heap_alloc_new w5 _)) (enc_one1 _ _ _) (by decide) (by unfold maxLen; omega) (by omega) (by simp; have := HV5.out.below.size; omega) _ rfl ?_); intro g7 cap7 w7 hown7 hgrow7 hat7 hlt7)
          have HVa := Lib.hid (HV5.out.up (Lw.below_alloc (Below.refl _ w5) (.cells #[.int .i64 (LV : Int), .int .u64 (ix : Int), .int .i64 VV] 84)))
          have HV7 := Lib.hid (turn1K HVa.out hown7 hgrow7 hat7)
          clear hown7 hgrow7 hat7 hlt7 HVa HV5 HVb y0 y1
          obtain ⟨y0, y1⟩ := box2r HV7.out.i0
          have HOE := Lib.hid (show (outA (fun L i => spV c sts (L : Int) i) least BB d' (t' + 1)).flatMap encF = (outA (fun L i => spV c sts (L : Int) i) least BB d' t').flatMap encF ++ [.int .i64 (LV : Int), .int .u64 (ix : Int), .int .i64 VV] by rw [HEQ.out, flat_enc_snoc]; rfl)
          have HOL := Lib.hid (show (outA (fun L i => spV c sts (L : Int) i) least BB d' (t' + 1)).length = NO + 1 by rw [HEQ.out, List.length_append, HNO.out]; rfl)
          by_cases hd0 : d' < BB
          · have HRE := Lib.hid (HYE.out (by omega) hd0)
            obtain ⟨LM, hLM⟩ : ∃ LM, LV = LM + 1 := ⟨LV - 1, by have := HLV.out; omega⟩
            have hLM2 : BB - (d' + 1) = LM := by have := HLV.out; omega
            rw [hLM2] at HRE
            obtain ⟨I2, hI2⟩ : ∃ v, 2 * ix = v := ⟨_, rfl⟩
            rw [hI2] at HRE
            have g3 : 0 < LV := by omega
            have g2 : decide (0 < LV) = true := decide_eq_true g3
            obtain ⟨w1, w2, w3, w4⟩ := half_nums (LM := LM) (LV := LV) (ix := ix) (I2 := I2) hLM hlv59 hix59 hI2
            have HRL := Lib.hid (show (rowA (fun L i => spV c sts (L : Int) i) least BB d' (t' + 1)).length = NA + 2 by rw [HRE.out, List.length_append, HNA.out]; rfl)
            have HRF := Lib.hid (show flatP (ints (rowA (fun L i => spV c sts (L : Int) i) least BB d' (t' + 1))) = flatP (ints (rowA (fun L i => spV c sts (L : Int) i) least BB d' t')) ++ [.int .i64 (LM : Int), .int .u64 (I2 : Int), .int .i64 (LM : Int), .int .u64 ((I2 : Int) + 1)] by rw [HRE.out, flatP_two]; rfl)
            have hna2 : NA ≤ 4096 := n4
            clear hI2 hLM2 hLM hvb
            go_upto_region 15 with fail
            obtain ⟨SV, hSV⟩ : ∃ v, Value.slice (some aa) NA capA = v := ⟨_, rfl⟩
            rw [hSV] at HV7 ⊢
            clear hSV
            go_wp2_with (at_builtin; go_must (refine wpList_append_lies _ rfl _ _ 118 rfl w.heap.size 82 i0 (.agg #[.int .i64 0, .int .u64 0]) 2 16 pcs_u hi_ hz0 hz1 hz2 rfl (by decide) _ _ _ rfl ((okI HV7.out.i2).alloc _) ⟨_, 0, none⟩ 2 2 [.int .i64 (LM : Int), .int .u64 (I2 : Int), .int .i64 (LM : Int), .int .u64 ((I2 : Int) + 1)] rfl rfl (World.news_of_block (heap_alloc_new w7 _)) (pc_two _ _ _ _) (by decide) (by unfold maxLen; omega) (by omega) (by simp; have := HV7.out.below.size; omega) _ rfl ?_); intro g8 cap8 w8 hown8 hgrow8 hat8 hlt8)
            have HVc := Lib.hid (HV7.out.up (Lw.below_alloc (Below.refl _ w7) (.cells #[.int .i64 (LM : Int), .int .u64 (I2 : Int), .int .i64 (LM : Int), .int .u64 ((I2 : Int) + 1)] 82)))
            have HV8 := Lib.hid (turn2K HVc.out hown8 hgrow8 hat8)
            go_roundw
            case rel => exact ⟨d', t' + 1, HHD.out.1, HHD.out.2, by rw [← HIV.out]; go_num, by rw [HOL.out, HOE.out, HRL.out, HRF.out]; exact HV8.out.drop_0.up (by repeat' (first | (with_reducible first | exact Below.refl _ _ | assumption | refine below_over ?_ _ _ | refine Lw.below_alloc ?_ _ | refine Below.drew ?_ | refine below_drewN ?_ _ | refine Below.setCell ?_ ?_ _) | go_size))⟩
            case measure => simp [intOf]; omega
          · have hdB : d' = BB := by have := HHD.out.1; omega
            have hlv0 : LV = 0 := by have := HLV.out; omega
            subst hlv0
            have HRS := Lib.hid (show rowA (fun L i => spV c sts (L : Int) i) least BB d' (t' + 1) = rowA (fun L i => spV c sts (L : Int) i) least BB d' t' by rw [hdB]; exact rowA_last)
            clear hdB hvb
            go_wp2
            go_roundw
            case rel => exact ⟨d', t' + 1, HHD.out.1, HHD.out.2, by rw [← HIV.out]; go_num, by rw [HOL.out, HOE.out, HRS.out, HNA.out]; exact HV7.out.drop_0.up (by repeat' (first | (with_reducible first | exact Below.refl _ _ | assumption | refine below_over ?_ _ _ | refine Lw.below_alloc ?_ _ | refine Below.drew ?_ | refine below_drewN ?_ _ | refine Below.setCell ?_ ?_ _) | go_size))⟩
            case measure => simp [intOf]; omega
    · obtain ⟨hen, heo⟩ := rowA_end hd ht (by omega)
      obtain ⟨IV, hIV⟩ : ∃ n, countQ (fun L i => spV c sts (L : Int) i) least BB d + t = n := ⟨_, rfl⟩
      rw [hIV] at hmore
      obtain ⟨NA, hNA⟩ : ∃ n, (rowA (fun L i => spV c sts (L : Int) i) least BB d t).length = n := ⟨_, rfl⟩
      obtain ⟨NO, hNO⟩ : ∃ n, (outA (fun L i => spV c sts (L : Int) i) least BB d t).length = n := ⟨_, rfl⟩
      rw [hNA, hNO] at HVr
      rw [hNA] at hmore hen
      rw [hIV]
      obtain ⟨AA, capA, rfl, hpc, hpf⟩ := pc_own (okI HVr.out.i1) (by rw [ints_len]; exact hNA) (row_bd hd hb59)
      obtain ⟨AO, capO, rfl, hso, hsf⟩ := st_own encF_len (okI HVr.out.i0) hNO
      rw [heo] at hso hsf
      have HSO := Lib.hid hso
      have HSF := Lib.hid hsf
      have HEN := Lib.hid hen
      have lt1 : ¬ (IV : Int) < (NA : Int) := by omega
      clear hpc hpf hso hsf hNA hNO hIV hmore heo hen hd ht
      by_cases hbud : bud < (NA : Int)
      · have HQ := Lib.hid (HOV.out (by rw [← HEN.out]; exact hbud))
        have f1 : decide (bud < (NA : Int)) = true := decide_eq_true hbud
        go_wp2
        refine bodyPost_ret (v := .tuple #[.slice none 0 0, .int .i64 7]) (by simp [results, Tryz.results18, go_sem]) rfl ?_
        rw [HQ.out.1, HQ.out.2]
        exact ⟨none, 0, 0, rfl, st_nil 3 encF _, (fun q hq => by obtain ⟨a, e, _⟩ := hq; cases e), HVr.out.below⟩
      · have HQ := Lib.hid (HYES.out (by rw [← HEN.out]; omega))
        have f1 : decide (bud < (NA : Int)) = false := decide_eq_false hbud
        go_wp2
        refine bodyPost_ret (v := .tuple #[.slice AO NO capO, .int .i64 0]) (by simp [results, Tryz.results18, go_sem]) rfl ?_
        rw [HQ.out.1, HQ.out.2]
        exact ⟨AO, NO, capO, rfl, HSO.out, HSF.out, HVr.out.below⟩
theorem rheavy_any (r : Addr) (F : Nat → Prop) (c : Cfg) (sts : List LS) (least bud : Int) (w : World) (h : DK w r F c sts) (hin : ∀ n i : Int, -9223372036854775808 ≤ spV c sts n i ∧ spV c sts n i ≤ 9223372036854775807) (l0 : -9223372036854775808 ≤ least) (l1 : least ≤ 9223372036854775807) (u0 : -9223372036854775808 ≤ bud) (u1 : bud ≤ 9223372036854775807) :
    Calls Tryz.prog 18 #[.pointer (some r), .int .i64 least, .int .i64 bud] w fun e w' => ∃ (A : Option Addr) (n cap : Nat), e = .returned (.tuple #[.slice A n cap, .int .i64 (hvC c (fun L i => spV c sts (L : Int) i) least bud)]) ∧ (stRowT 3 encF A n cap (hvL c (fun L i => spV c sts (L : Int) i) least bud)).I w' ∧ (∀ q, (stRowT 3 encF A n cap (hvL c (fun L i => spV c sts (L : Int) i) least bud)).F q → w.heap.size ≤ q) ∧ Below w.heap.size w w' := by
  by_cases h1 : least < 1 ∨ 4096 < bud
  · exact rheavy_a r F c sts least bud w h hin l0 l1 u0 u1 h1
  · exact rheavy_m r F c sts least bud w h hin l0 l1 u0 u1 (by omega) (by omega)
end Go.Proofs.YtkflggojiiebeaaGreat.Hvy

