/- The walks of layer 4: a line's value, what is left of it, and the line through two points. -/
import Derived.Test.YtdhljlhecoclfaaFldPow
import Derived.Test.YtdhljlhecoclfaaFldAlg
import Derived.Test.YtdhljlhecoclfaaGrow
import Derived.Deep.RegionHeld3
import Derived.WalkSpells
namespace Go.Proofs.Ytdhljlhecoclfaa.Hsh
open Go.RowKit Fld Lw
set_option linter.unusedVariables false
def lin (a b x : Int) : Int := add (mul a x) b
def buck (a b x n : Int) : Int := if n < 1 then -1 else lin a b x % n
def thrA (x u y v : Int) : Int := mul (sub u v) (inv (sub x y))
def thrB (x u y v : Int) : Int := sub u (lin (thrA x u y v) 0 x)
theorem lin_bd (a b x : Int) : 0 ≤ lin a b x ∧ lin a b x ≤ 2305843009213693950 := add_bd _ _
theorem mod_le (x n : Int) (h : 0 ≤ x) (hn : 1 ≤ n) : x % n ≤ x := by
  have e := Int.ediv_mul_add_emod x n
  have b := Int.mul_nonneg (Int.ediv_nonneg h (show 0 ≤ n by omega)) (show 0 ≤ n by omega)
  omega
theorem buck_bd (a b x n : Int) : -1 ≤ buck a b x n ∧ buck a b x n ≤ 2305843009213693950 := by
  have h := lin_bd a b x
  unfold buck
  split
  · omega
  · have h1 := Int.emod_nonneg (lin a b x) (show n ≠ 0 by omega)
    have h2 := mod_le _ n h.1 (by omega)
    omega
end Go.Proofs.Ytdhljlhecoclfaa.Hsh
