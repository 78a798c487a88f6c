/- Texts that statements lean on, put together: HvyMath, HvyHier. -/
import Derived.Test.YtkflggojiiebeaaGreatQaa
import Derived.Test.YtkflggojiiebeaaGreatQab
import Derived.Test.YtkflggojiiebeaaGreatQac
import Derived.Test.YtkflggojiiebeaaGreatQad
import Derived.Test.YtkflggojiiebeaaGreatQae
import Derived.Test.YtkflggojiiebeaaGreatQaf
import Derived.Test.YtkflggojiiebeaaGreatQba
import Derived.Test.YtkflggojiiebeaaGreatRows
import Derived.WalkKit
import Derived.ProofKit
import Derived.OpenShut
import Derived.DataShut
import Derived.Lib.SmallJoins
import Derived.Handy
import Derived.WalkSmall
import Derived.Deep.Draws
import Derived.WalkSpells
import Derived.Laws.AppendOwnNone
import Derived.Deep.AppendLies
import Derived.Lib.Hide
import Derived.Deep.MidRow
import Derived.Laws.BitsAllLaws
import Derived.WalkMore
import Derived.Deep.LoopGhost
import Derived.Deep.RegionHeld3
import Derived.Deep.QuietTactic
import Derived.BigQuiet
import Derived.Laws.Cover3
import Derived.Shelf.Spec.BitsCarry
import Derived.Laws.OwnMore
import Derived.Deep.DeepCutAuto
import Derived.Laws.EntriesVeiled
import Derived.Deep.CutRange
namespace Go.Proofs.YtkflggojiiebeaaGreat.Con
end Go.Proofs.YtkflggojiiebeaaGreat.Con
namespace Go.Proofs.YtkflggojiiebeaaGreat.Exa
end Go.Proofs.YtkflggojiiebeaaGreat.Exa
namespace Go.Proofs.YtkflggojiiebeaaGreat.Fld
end Go.Proofs.YtkflggojiiebeaaGreat.Fld
namespace Go.Proofs.YtkflggojiiebeaaGreat.Grd
end Go.Proofs.YtkflggojiiebeaaGreat.Grd
namespace Go.Proofs.YtkflggojiiebeaaGreat.Hsh
end Go.Proofs.YtkflggojiiebeaaGreat.Hsh
namespace Go.Proofs.YtkflggojiiebeaaGreat.Hvy
end Go.Proofs.YtkflggojiiebeaaGreat.Hvy
namespace Go.Proofs.YtkflggojiiebeaaGreat.Inn
end Go.Proofs.YtkflggojiiebeaaGreat.Inn
namespace Go.Proofs.YtkflggojiiebeaaGreat.Lev
end Go.Proofs.YtkflggojiiebeaaGreat.Lev
namespace Go.Proofs.YtkflggojiiebeaaGreat.Lin
end Go.Proofs.YtkflggojiiebeaaGreat.Lin
namespace Go.Proofs.YtkflggojiiebeaaGreat.Lw
end Go.Proofs.YtkflggojiiebeaaGreat.Lw
namespace Go.Proofs.YtkflggojiiebeaaGreat.Ord
end Go.Proofs.YtkflggojiiebeaaGreat.Ord
namespace Go.Proofs.YtkflggojiiebeaaGreat.Pcs
end Go.Proofs.YtkflggojiiebeaaGreat.Pcs
namespace Go.Proofs.YtkflggojiiebeaaGreat.Qnt
end Go.Proofs.YtkflggojiiebeaaGreat.Qnt
namespace Go.Proofs.YtkflggojiiebeaaGreat.Sed
end Go.Proofs.YtkflggojiiebeaaGreat.Sed
namespace Go.Proofs.YtkflggojiiebeaaGreat.Shp
end Go.Proofs.YtkflggojiiebeaaGreat.Shp
namespace Go.Proofs.YtkflggojiiebeaaGreat.Sk
end Go.Proofs.YtkflggojiiebeaaGreat.Sk
namespace Go.Proofs.YtkflggojiiebeaaGreat.Smr
end Go.Proofs.YtkflggojiiebeaaGreat.Smr
namespace Go.Proofs.YtkflggojiiebeaaGreat.Spn
end Go.Proofs.YtkflggojiiebeaaGreat.Spn
namespace Go.Proofs.YtkflggojiiebeaaGreat.Stk
end Go.Proofs.YtkflggojiiebeaaGreat.Stk
namespace Go.Proofs.YtkflggojiiebeaaGreat.Wid
end Go.Proofs.YtkflggojiiebeaaGreat.Wid
namespace Go.Proofs.YtkflggojiiebeaaGreat.Hvy
open Go Go.RowKit Lw Grd Lin Con Shp Sk Exa Lev Stk Pcs Spn Qnt
set_option linter.unusedVariables false
theorem halvesQ_app (pt : Nat → Int → Int) (least : Int) (L : Nat) (l m : List Nat) : halvesQ pt least L (l ++ m) = halvesQ pt least L l ++ halvesQ pt least L m := by
  unfold halvesQ
  rw [List.filter_append, List.flatMap_append]
theorem halvesQ_yes {pt : Nat → Int → Int} {least : Int} {L i : Nat} (h : least ≤ pt L ((i : Nat) : Int)) : halvesQ pt least L [i] = [2 * i, 2 * i + 1] := by
  unfold halvesQ
  rw [List.filter_cons_of_pos (by unfold big; exact decide_eq_true h)]
  rfl
theorem halvesQ_no {pt : Nat → Int → Int} {least : Int} {L i : Nat} (h : ¬ least ≤ pt L ((i : Nat) : Int)) : halvesQ pt least L [i] = [] := by
  unfold halvesQ
  rw [List.filter_cons_of_neg (by unfold big; simpa using h)]
  rfl
theorem mem_foundQ {pt : Nat → Int → Int} {least : Int} {B : Nat} {q : (Nat × Nat) × Int} : ∀ {d : Nat}, q ∈ foundQ pt least B d ↔ ∃ e, e < d ∧ q.1.1 = B - e ∧ q.1.2 ∈ askQ pt least B e ∧ least ≤ pt (B - e) ((q.1.2 : Nat) : Int) ∧ q.2 = pt (B - e) ((q.1.2 : Nat) : Int)
  | 0 => by simp [foundQ]
  | d + 1 => by
    have ih := mem_foundQ (pt := pt) (least := least) (B := B) (q := q) (d := d)
    show q ∈ foundQ pt least B d ++ tellQ pt least (B - d) (askQ pt least B d) ↔ _
    rw [List.mem_append, ih, mem_tellQ]
    constructor
    · rintro (⟨e, h1, h2⟩ | h)
      · exact ⟨e, by omega, h2⟩
      · exact ⟨d, by omega, h⟩
    · rintro ⟨e, h1, h2⟩
      by_cases he : e = d
      · subst he
        exact .inr h2
      · exact .inl ⟨e, by omega, h2⟩
/-- What is asked rises. -/
theorem halvesQ_rises {pt : Nat → Int → Int} {least : Int} {L : Nat} {l : List Nat} (h : l.Pairwise (· < ·)) : (halvesQ pt least L l).Pairwise (· < ·) := by
  induction l with
  | nil => exact List.Pairwise.nil
  | cons i l ih =>
    have e := halvesQ_app pt least L [i] l
    rw [List.singleton_append] at e
    obtain ⟨h1, h2⟩ := List.pairwise_cons.1 h
    rw [e, List.pairwise_append]
    refine ⟨?_, ih h2, fun a ha b hb => ?_⟩
    · by_cases g : least ≤ pt L ((i : Nat) : Int)
      · rw [halvesQ_yes g]
        simp
      · rw [halvesQ_no g]
        exact List.Pairwise.nil
    · have a1 := (mem_halvesQ.1 ha).1
      have b1 := (mem_halvesQ.1 hb).1
      rw [List.mem_singleton] at a1
      have := h1 _ b1
      omega
theorem askQ_rises (pt : Nat → Int → Int) (least : Int) (B : Nat) : ∀ d : Nat, (askQ pt least B d).Pairwise (· < ·)
  | 0 => List.pairwise_singleton _ _
  | d + 1 => halvesQ_rises (askQ_rises pt least B d)
end Go.Proofs.YtkflggojiiebeaaGreat.Hvy

namespace Go.Proofs.YtkflggojiiebeaaGreat.Hvy
open Go Go.RowKit Lw Grd Lin Con Shp Sk Exa Lev Stk Pcs Spn Qnt
set_option linter.unusedVariables false
/-- No piece is told twice. -/
theorem foundQ_row (pt : Nat → Int → Int) (least : Int) (B : Nat) : ∀ d : Nat, d ≤ B + 1 → (foundQ pt least B d).Pairwise (fun x y => x.1 ≠ y.1)
  | 0, _ => List.Pairwise.nil
  | d + 1, hd => by
    show (foundQ pt least B d ++ tellQ pt least (B - d) (askQ pt least B d)).Pairwise _
    rw [List.pairwise_append]
    refine ⟨foundQ_row pt least B d (by omega), ?_, fun x hx y hy e => ?_⟩
    · unfold tellQ
      rw [List.pairwise_map]
      refine List.Pairwise.imp ?_ (List.Pairwise.filter (big pt least (B - d)) (askQ_rises pt least B d))
      intro a b hab e
      have h1 : a = b := by injection e
      omega
    · obtain ⟨e1, h1, h2, -⟩ := mem_foundQ.1 hx
      have h3 := (mem_tellQ.1 hy).1
      rw [e, h3] at h2
      omega
end Go.Proofs.YtkflggojiiebeaaGreat.Hvy

