/-
  No cell of these rows narrows 'for every input' (looked for: loops, veiled, ifaces, maps, wideKeys, modest, calm, conditions, laid).
  DERIVED. THE GIVEN ROWS OF THIS SEAT. 5 by the template 'for every input the law returns true; each argument reads behind the call as it read before'; 0 by the template 'total and deterministic' (their statements: YtonbidohhgenlaaTotals.lean).
  GIVEN WITH THE SEED: the statements are not yours to turn. If you find one false, say at which input.
  Laid BY PROGRAM, IN A SANDBOX (cutbox-rows.mjs): the forced cells as the released guide's own fill.sh prints them over the translation 9f3929277c0919ce… (all of the seat's roots in one cut). By AI agents, Wed Nov 11 2026. No macro, syntax, notation, axiom, sorry.
-/
import Derived.Test.YtonbidohhgenlaaChecked
import GoSem.Claim
import GoSem.ClaimJoined
import GoSem.ClaimMapViews
import Derived.JoinedTies
import Derived.KernelRfl
namespace Go.Proofs.Ytonbidohhgenlaa
/- THE CELL 'sum', in the pinned program and in every row, IS THE sha256 OF THE DUMP (.gsa) THAT YtonbidohhgenlaaProg.lean LOADS. Nothing in Lean hashes anything: it is a label: what it is worth is what the hold of that sum in a sandbox is worth. -/
noncomputable def Try.pinned : Pinned := { name := "ytonbidohhgenlaa", sum := "9f3929277c0919ce6479137456e9c573b1bf13b3c84c399deca0177b7dfa40ba", checked := Try.checked }
namespace Rows
def none {H : Type} : Left H := { results := [], args := [] }

/-- 'gaugerlaw09.ConservePlays': WHATEVER THE INPUT: true; the input reads as it did. -/
def conservePlaysSpec : ChangeSpec := { name := "conservePlays", fn := fun _ => fun
  | [d] => { results := [.lit (.bool true)], args := [d] }
  | _ => none }
def conservePlaysRow : OpenClaim := { program := "ytonbidohhgenlaa", sum := "9f3929277c0919ce6479137456e9c573b1bf13b3c84c399deca0177b7dfa40ba", func := "gauger/gaugerlaw09.ConservePlays", spec := "conservePlays", inPlace := ["math/bits.Add64"], unfollowed := true, recurses := true, apart := false }
def ConservePlaysSaid : Prop := conservePlaysRow.holds Try.pinned (OpenSpec.ofChange conservePlaysSpec)

/-- ITS FALSE NEIGHBOUR: 'it returns false'. Refute it at one input. -/
def conservePlaysWrong : ChangeSpec := { name := "conservePlays", fn := fun _ => fun
  | [d] => { results := [.lit (.bool false)], args := [d] }
  | _ => none }
def ConservePlaysWrongFalsely : Prop := conservePlaysRow.holds Try.pinned (OpenSpec.ofChange conservePlaysWrong)

/-- 'gaugerlaw09.ConserveBounds': WHATEVER THE INPUT: true; the input reads as it did. -/
def conserveBoundsSpec : ChangeSpec := { name := "conserveBounds", fn := fun _ => fun
  | [d1, d2] => { results := [.lit (.bool true)], args := [d1, d2] }
  | _ => none }
def conserveBoundsRow : OpenClaim := { program := "ytonbidohhgenlaa", sum := "9f3929277c0919ce6479137456e9c573b1bf13b3c84c399deca0177b7dfa40ba", func := "gauger/gaugerlaw09.ConserveBounds", spec := "conserveBounds", inPlace := ["math/bits.Add64"], unfollowed := true, recurses := true, apart := false }
def ConserveBoundsSaid : Prop := conserveBoundsRow.holds Try.pinned (OpenSpec.ofChange conserveBoundsSpec)

/-- ITS FALSE NEIGHBOUR: 'it returns false'. Refute it at one input. -/
def conserveBoundsWrong : ChangeSpec := { name := "conserveBounds", fn := fun _ => fun
  | [d1, d2] => { results := [.lit (.bool false)], args := [d1, d2] }
  | _ => none }
def ConserveBoundsWrongFalsely : Prop := conserveBoundsRow.holds Try.pinned (OpenSpec.ofChange conserveBoundsWrong)

/-- 'gaugerlaw09.ConserveJoins': WHATEVER THE INPUT: true; the input reads as it did. -/
def conserveJoinsSpec : ChangeSpec := { name := "conserveJoins", fn := fun _ => fun
  | [d1, d2, d3] => { results := [.lit (.bool true)], args := [d1, d2, d3] }
  | _ => none }
def conserveJoinsRow : OpenClaim := { program := "ytonbidohhgenlaa", sum := "9f3929277c0919ce6479137456e9c573b1bf13b3c84c399deca0177b7dfa40ba", func := "gauger/gaugerlaw09.ConserveJoins", spec := "conserveJoins", inPlace := ["math/bits.Add64"], unfollowed := true, recurses := true, apart := false }
def ConserveJoinsSaid : Prop := conserveJoinsRow.holds Try.pinned (OpenSpec.ofChange conserveJoinsSpec)

/-- ITS FALSE NEIGHBOUR: 'it returns false'. Refute it at one input. -/
def conserveJoinsWrong : ChangeSpec := { name := "conserveJoins", fn := fun _ => fun
  | [d1, d2, d3] => { results := [.lit (.bool false)], args := [d1, d2, d3] }
  | _ => none }
def ConserveJoinsWrongFalsely : Prop := conserveJoinsRow.holds Try.pinned (OpenSpec.ofChange conserveJoinsWrong)

/-- 'gaugerlaw09.ConserveRises': WHATEVER THE INPUT: true; the input reads as it did. -/
def conserveRisesSpec : ChangeSpec := { name := "conserveRises", fn := fun _ => fun
  | [d1, d2, d3] => { results := [.lit (.bool true)], args := [d1, d2, d3] }
  | _ => none }
def conserveRisesRow : OpenClaim := { program := "ytonbidohhgenlaa", sum := "9f3929277c0919ce6479137456e9c573b1bf13b3c84c399deca0177b7dfa40ba", func := "gauger/gaugerlaw09.ConserveRises", spec := "conserveRises", inPlace := ["math/bits.Add64"], unfollowed := true, recurses := true, apart := false }
def ConserveRisesSaid : Prop := conserveRisesRow.holds Try.pinned (OpenSpec.ofChange conserveRisesSpec)

/-- ITS FALSE NEIGHBOUR: 'it returns false'. Refute it at one input. -/
def conserveRisesWrong : ChangeSpec := { name := "conserveRises", fn := fun _ => fun
  | [d1, d2, d3] => { results := [.lit (.bool false)], args := [d1, d2, d3] }
  | _ => none }
def ConserveRisesWrongFalsely : Prop := conserveRisesRow.holds Try.pinned (OpenSpec.ofChange conserveRisesWrong)

/-- 'gaugerlaw09.ConserveNone': WHATEVER THE INPUT: true; the input reads as it did. -/
def conserveNoneSpec : ChangeSpec := { name := "conserveNone", fn := fun _ => fun
  | [d1, d2] => { results := [.lit (.bool true)], args := [d1, d2] }
  | _ => none }
def conserveNoneRow : OpenClaim := { program := "ytonbidohhgenlaa", sum := "9f3929277c0919ce6479137456e9c573b1bf13b3c84c399deca0177b7dfa40ba", func := "gauger/gaugerlaw09.ConserveNone", spec := "conserveNone", inPlace := ["math/bits.Add64"], unfollowed := true, recurses := true, apart := false }
def ConserveNoneSaid : Prop := conserveNoneRow.holds Try.pinned (OpenSpec.ofChange conserveNoneSpec)

/-- ITS FALSE NEIGHBOUR: 'it returns false'. Refute it at one input. -/
def conserveNoneWrong : ChangeSpec := { name := "conserveNone", fn := fun _ => fun
  | [d1, d2] => { results := [.lit (.bool false)], args := [d1, d2] }
  | _ => none }
def ConserveNoneWrongFalsely : Prop := conserveNoneRow.holds Try.pinned (OpenSpec.ofChange conserveNoneWrong)

/- THE SECOND FORM. 'bulk': how many values and letters a reading holds, each counted each time it is reached (what is shared counts as often as it is met; a slice's spare places count too). A statement '..UptoSaid' is the law's where the arguments, and the package variables that the reading takes, are together of bulk at most 1048576: NARROWER than '..Said'. Prove '..Said' where nothing that the law and all that it calls make is longer than what came in: it says more and counts as full. Else prove '..UptoSaid'. A law counts once. -/
mutual
def uptoBulk {H : Type} : DataW H → Nat
  | .lit (.string bytes) => bytes.length + 1
  | .lit _ => 1
  | .nil => 1
  | .ptr d => uptoBulk d + 1
  | .slice elems spare => uptoBulkAll elems + uptoBulkAll spare + 1
  | .agg parts => uptoBulkAll parts + 1
  | .iface _ d => uptoBulk d + 1
  | .map entries => uptoBulkEntries entries + 1
  | .held _ => 1
def uptoBulkAll {H : Type} : List (DataW H) → Nat
  | [] => 0
  | d :: r => uptoBulk d + uptoBulkAll r
def uptoBulkEntries {H : Type} : List (Lit × DataW H) → Nat
  | [] => 0
  | x :: r => uptoBulkEntry x + uptoBulkEntries r
def uptoBulkEntry {H : Type} : Lit × DataW H → Nat
  | (.string bytes, d) => bytes.length + uptoBulk d + 1
  | (_, d) => uptoBulk d + 1
 end
def uptoSmall : (H : Type) → List (DataW H) → Bool := fun _ ds => decide (uptoBulkAll ds ≤ 1048576)
def OpenSpec.upto (s : _root_.Go.ChangeSpec) : _root_.Go.OpenSpec := { _root_.Go.OpenSpec.ofChange s with cond := some uptoSmall }

/-- 'gaugerlaw09.ConservePlays', WHERE WHAT IT READS IS OF BULK AT MOST 1048576: true; the input reads as it did. -/
def conservePlaysUptoRow : OpenClaim := { program := "ytonbidohhgenlaa", sum := "9f3929277c0919ce6479137456e9c573b1bf13b3c84c399deca0177b7dfa40ba", func := "gauger/gaugerlaw09.ConservePlays", spec := "conservePlays", inPlace := ["math/bits.Add64"], unfollowed := true, recurses := true, apart := false, narrowed := true }
def ConservePlaysUptoSaid : Prop := conservePlaysUptoRow.holds Try.pinned (OpenSpec.upto conservePlaysSpec)

/-- 'gaugerlaw09.ConserveBounds', WHERE WHAT IT READS IS OF BULK AT MOST 1048576: true; the input reads as it did. -/
def conserveBoundsUptoRow : OpenClaim := { program := "ytonbidohhgenlaa", sum := "9f3929277c0919ce6479137456e9c573b1bf13b3c84c399deca0177b7dfa40ba", func := "gauger/gaugerlaw09.ConserveBounds", spec := "conserveBounds", inPlace := ["math/bits.Add64"], unfollowed := true, recurses := true, apart := false, narrowed := true }
def ConserveBoundsUptoSaid : Prop := conserveBoundsUptoRow.holds Try.pinned (OpenSpec.upto conserveBoundsSpec)

/-- 'gaugerlaw09.ConserveJoins', WHERE WHAT IT READS IS OF BULK AT MOST 1048576: true; the input reads as it did. -/
def conserveJoinsUptoRow : OpenClaim := { program := "ytonbidohhgenlaa", sum := "9f3929277c0919ce6479137456e9c573b1bf13b3c84c399deca0177b7dfa40ba", func := "gauger/gaugerlaw09.ConserveJoins", spec := "conserveJoins", inPlace := ["math/bits.Add64"], unfollowed := true, recurses := true, apart := false, narrowed := true }
def ConserveJoinsUptoSaid : Prop := conserveJoinsUptoRow.holds Try.pinned (OpenSpec.upto conserveJoinsSpec)

/-- 'gaugerlaw09.ConserveRises', WHERE WHAT IT READS IS OF BULK AT MOST 1048576: true; the input reads as it did. -/
def conserveRisesUptoRow : OpenClaim := { program := "ytonbidohhgenlaa", sum := "9f3929277c0919ce6479137456e9c573b1bf13b3c84c399deca0177b7dfa40ba", func := "gauger/gaugerlaw09.ConserveRises", spec := "conserveRises", inPlace := ["math/bits.Add64"], unfollowed := true, recurses := true, apart := false, narrowed := true }
def ConserveRisesUptoSaid : Prop := conserveRisesUptoRow.holds Try.pinned (OpenSpec.upto conserveRisesSpec)

/-- 'gaugerlaw09.ConserveNone', WHERE WHAT IT READS IS OF BULK AT MOST 1048576: true; the input reads as it did. -/
def conserveNoneUptoRow : OpenClaim := { program := "ytonbidohhgenlaa", sum := "9f3929277c0919ce6479137456e9c573b1bf13b3c84c399deca0177b7dfa40ba", func := "gauger/gaugerlaw09.ConserveNone", spec := "conserveNone", inPlace := ["math/bits.Add64"], unfollowed := true, recurses := true, apart := false, narrowed := true }
def ConserveNoneUptoSaid : Prop := conserveNoneUptoRow.holds Try.pinned (OpenSpec.upto conserveNoneSpec)

end Rows
end Go.Proofs.Ytonbidohhgenlaa
