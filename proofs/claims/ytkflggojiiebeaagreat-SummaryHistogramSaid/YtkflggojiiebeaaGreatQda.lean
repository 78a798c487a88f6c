/- Texts that statements lean on, put together: Row. -/
import Derived.Test.YtkflggojiiebeaaGreatQaa
import Derived.Test.YtkflggojiiebeaaGreatRows
import Derived.WalkKit
import Derived.ProofKit
import Derived.OpenShut
import Derived.DataShut
import Derived.Lib.SmallJoins
import Derived.Handy
import Derived.WalkSmall
import Derived.Deep.Draws
import Derived.WalkSpells
import Derived.Laws.AppendOwnNone
import Derived.Deep.AppendLies
import Derived.Lib.Hide
namespace Go.Proofs.YtkflggojiiebeaaGreat.Lw
open Go Go.RowKit
set_option linter.unusedVariables false
theorem rd2 {k : IntKind} {w : World} {B : Nat} {a b : Int} (h0 : w.cell? ⟨B, 0, none⟩ = some (.int k a)) (h1 : w.cell? ⟨B, 1, none⟩ = some (.int k b)) : Rd k w (some ⟨B, 0, none⟩) [a, b] := by
  intro j v hj
  match j, hj with
  | 0, hj =>
    simp at hj
    subst hj
    exact ⟨_, rfl, by simpa [Addr.add] using h0⟩
  | 1, hj =>
    simp at hj
    subst hj
    exact ⟨_, rfl, by simpa [Addr.add] using h1⟩
end Go.Proofs.YtkflggojiiebeaaGreat.Lw

