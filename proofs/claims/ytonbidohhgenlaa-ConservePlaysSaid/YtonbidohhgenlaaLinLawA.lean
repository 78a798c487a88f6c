/- What the statements of layer 8 lean on. Printed by wip/gen/linlaws.py. -/
import Derived.Test.YtonbidohhgenlaaLinCode
import Derived.Test.YtonbidohhgenlaaLinChg
import Derived.Test.YtonbidohhgenlaaLaw
import Derived.Test.YtonbidohhgenlaaBits
import Derived.Deep.LoopGhost
import Derived.Deep.RegionHeld3
import Derived.Deep.QuietTactic
import Derived.BigQuiet
namespace Go.Proofs.Ytonbidohhgenlaa.Lin
open Go Go.RowKit Lw Grd
set_option linter.unusedVariables false
set_option linter.unusedSimpArgs false
theorem pg0 {w0 w : World} {p : Addr} {F : Nat → Prop} {m n : Nat} {L : List (List Int)} {ts : List Thing} (h : Have w0 w (pgT p F m n L :: ts)) : PG w p F m n L := h.1
theorem new_mn (rows width : Int) (m n : Nat) (w : World) (hm : cl rows 8 = m) (hn : cl width 128 = n) (r0 : -9223372036854775808 ≤ rows) (r1 : rows ≤ 9223372036854775807) (c0 : -9223372036854775808 ≤ width) (c1 : width ≤ 9223372036854775807) :
    Calls Try.prog 9 #[.int .i64 rows, .int .i64 width] w fun e w' => ∃ (p : Addr) (F : Nat → Prop), e = .returned (.pointer (some p)) ∧ PG w' p F m n (zerosL m n) ∧ (∀ k, F k → w.heap.size ≤ k) ∧ Below w.heap.size w w' := by
  subst hm hn
  exact new_any rows width w r0 r1 c0 c1
/-- A block that is made now is none of a thing's. -/
theorem new_apart {w0 w : World} {t : Thing} {ts : List Thing} (h : Have w0 w (t :: ts)) : ∀ a, (some (⟨w.heap.size, 0, none⟩ : Addr)) = some a → ¬ t.F a.block := by
  intro a ha hf
  injection ha with ha
  subst ha
  have := t.lt w h.1 _ hf
  simp at this
theorem c28 : cl 2 8 = 2 := by decide
theorem c3128 : cl 3 128 = 3 := by decide
def sZ : List (List Int) := zerosL 2 3
def sA : List (List Int) := chRes 2 3 sZ [0, 1] 5
def sB : List (List Int) := chRes 2 3 sA [0, 2] 7
def sC : List (List Int) := chRes 2 3 sB [0, 3] 7
theorem q1 : chCode 2 3 sZ [0, 1] 5 = 0 := by decide
theorem q2 : chCode 2 3 sA [0, 2] 7 = 0 := by decide
theorem q3 : chCode 2 3 sB [0, 3] 7 = 1 := by decide
theorem q4 : rdCode 2 3 [0, 1] = 0 := by decide
theorem q5 : rdCode 2 3 [0, 2] = 0 := by decide
theorem q6 : readOf 2 3 sC [0, 1] = [12, 5] := by decide
theorem q7 : Ord.kv (readOf 2 3 sC [0, 1]) 0 = 5 := by decide
theorem q8 : Ord.kv (readOf 2 3 sC [0, 2]) ((((readOf 2 3 sC [0, 2]).length : Int) - 1) / 2) = 7 := by decide
/-- A step: its columns and what is added. -/
structure StepV where
  A : Option Addr
  n : Nat
  c : Nat
  zs : List Int
  d : Int
structure StepV.In (s : StepV) (w : World) : Prop where
  nil : s.A = none → s.n = 0 ∧ s.c = 0
  nc : s.n ≤ s.c
  cm : s.c ≤ maxLen
  rd : Rd .i64 w s.A s.zs
  len : s.zs.length = s.n
  zb : In64 s.zs
  db : -9223372036854775808 ≤ s.d ∧ s.d ≤ 9223372036854775807
theorem step_int_c : Try.prog.cellsOf 3 = 1 := by kernel_rfl
theorem sized_part (x m : Int) (hm0 : 1 ≤ m) (hm1 : m ≤ 65536) : ∃ X Y, bits .and .i64 x 65535 = X ∧ 0 ≤ X ∧ X ≤ 65535 ∧ Int.tmod X m = Y ∧ x % 65536 % m = Y ∧ 0 ≤ Y ∧ Y < m :=
  ⟨x % 65536, x % 65536 % m, and16i x, by omega, by omega, Int.tmod_eq_emod_of_nonneg (by omega), rfl, Int.emod_nonneg _ (by omega), Int.emod_lt_of_pos _ (by omega)⟩
def rowsOf (x : Int) : Nat := (1 + x % 65536 % 5).toNat
def widthOf (x : Int) : Nat := (1 + x % 65536 % 9).toNat
theorem rows_bd (x : Int) : 1 ≤ rowsOf x ∧ rowsOf x ≤ 5 := by unfold rowsOf; omega
theorem width_bd (x : Int) : 1 ≤ widthOf x ∧ widthOf x ≤ 9 := by unfold widthOf; omega
end Go.Proofs.Ytonbidohhgenlaa.Lin
