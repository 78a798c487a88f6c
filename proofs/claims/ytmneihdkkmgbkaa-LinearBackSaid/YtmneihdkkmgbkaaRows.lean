/-
  No cell of these rows narrows 'for every input' (looked for: loops, veiled, ifaces, maps, wideKeys, modest, calm, conditions, laid).
  DERIVED. THE GIVEN ROWS OF THIS SEAT. 6 by the template 'for every input the law returns true; each argument reads behind the call as it read before'; 0 by the template 'total and deterministic' (their statements: YtmneihdkkmgbkaaTotals.lean).
  GIVEN WITH THE SEED: the statements are not yours to turn. If you find one false, say at which input.
  Laid BY PROGRAM, IN A SANDBOX (cutbox-rows.mjs): the forced cells as the released guide's own fill.sh prints them over the translation 8e05c041ff2f63af… (all of the seat's roots in one cut). By AI agents, Wed Nov 11 2026. No macro, syntax, notation, axiom, sorry.
-/
import Derived.Test.YtmneihdkkmgbkaaChecked
import GoSem.Claim
import GoSem.ClaimJoined
import GoSem.ClaimMapViews
import Derived.JoinedTies
import Derived.KernelRfl
namespace Go.Proofs.Ytmneihdkkmgbkaa
/- THE CELL 'sum', in the pinned program and in every row, IS THE sha256 OF THE DUMP (.gsa) THAT YtmneihdkkmgbkaaProg.lean LOADS. Nothing in Lean hashes anything: it is a label: what it is worth is what the hold of that sum in a sandbox is worth. -/
noncomputable def Try.pinned : Pinned := { name := "ytmneihdkkmgbkaa", sum := "8e05c041ff2f63afa2c9db3a42b2651a571642b0bb70d4583e6903c80757b275", checked := Try.checked }
namespace Rows
def none {H : Type} : Left H := { results := [], args := [] }

/-- 'gaugerlaw08.LinearPlays': WHATEVER THE INPUT: true; the input reads as it did. -/
def linearPlaysSpec : ChangeSpec := { name := "linearPlays", fn := fun _ => fun
  | [d1, d2, d3] => { results := [.lit (.bool true)], args := [d1, d2, d3] }
  | _ => none }
def linearPlaysRow : OpenClaim := { program := "ytmneihdkkmgbkaa", sum := "8e05c041ff2f63afa2c9db3a42b2651a571642b0bb70d4583e6903c80757b275", func := "gauger/gaugerlaw08.LinearPlays", spec := "linearPlays", inPlace := ["math/bits.Add64"], unfollowed := true, recurses := true, apart := false }
def LinearPlaysSaid : Prop := linearPlaysRow.holds Try.pinned (OpenSpec.ofChange linearPlaysSpec)

/-- ITS FALSE NEIGHBOUR: 'it returns false'. Refute it at one input. -/
def linearPlaysWrong : ChangeSpec := { name := "linearPlays", fn := fun _ => fun
  | [d1, d2, d3] => { results := [.lit (.bool false)], args := [d1, d2, d3] }
  | _ => none }
def LinearPlaysWrongFalsely : Prop := linearPlaysRow.holds Try.pinned (OpenSpec.ofChange linearPlaysWrong)

/-- 'gaugerlaw08.LinearSums': WHATEVER THE INPUT: true; the input reads as it did. -/
def linearSumsSpec : ChangeSpec := { name := "linearSums", fn := fun _ => fun
  | [d] => { results := [.lit (.bool true)], args := [d] }
  | _ => none }
def linearSumsRow : OpenClaim := { program := "ytmneihdkkmgbkaa", sum := "8e05c041ff2f63afa2c9db3a42b2651a571642b0bb70d4583e6903c80757b275", func := "gauger/gaugerlaw08.LinearSums", spec := "linearSums", inPlace := ["math/bits.Add64"], unfollowed := true, recurses := true, apart := false }
def LinearSumsSaid : Prop := linearSumsRow.holds Try.pinned (OpenSpec.ofChange linearSumsSpec)

/-- ITS FALSE NEIGHBOUR: 'it returns false'. Refute it at one input. -/
def linearSumsWrong : ChangeSpec := { name := "linearSums", fn := fun _ => fun
  | [d] => { results := [.lit (.bool false)], args := [d] }
  | _ => none }
def LinearSumsWrongFalsely : Prop := linearSumsRow.holds Try.pinned (OpenSpec.ofChange linearSumsWrong)

/-- 'gaugerlaw08.LinearOrder': WHATEVER THE INPUT: true; the input reads as it did. -/
def linearOrderSpec : ChangeSpec := { name := "linearOrder", fn := fun _ => fun
  | [d] => { results := [.lit (.bool true)], args := [d] }
  | _ => none }
def linearOrderRow : OpenClaim := { program := "ytmneihdkkmgbkaa", sum := "8e05c041ff2f63afa2c9db3a42b2651a571642b0bb70d4583e6903c80757b275", func := "gauger/gaugerlaw08.LinearOrder", spec := "linearOrder", inPlace := ["math/bits.Add64"], unfollowed := true, recurses := true, apart := false }
def LinearOrderSaid : Prop := linearOrderRow.holds Try.pinned (OpenSpec.ofChange linearOrderSpec)

/-- ITS FALSE NEIGHBOUR: 'it returns false'. Refute it at one input. -/
def linearOrderWrong : ChangeSpec := { name := "linearOrder", fn := fun _ => fun
  | [d] => { results := [.lit (.bool false)], args := [d] }
  | _ => none }
def LinearOrderWrongFalsely : Prop := linearOrderRow.holds Try.pinned (OpenSpec.ofChange linearOrderWrong)

/-- 'gaugerlaw08.LinearLeast': WHATEVER THE INPUT: true; the input reads as it did. -/
def linearLeastSpec : ChangeSpec := { name := "linearLeast", fn := fun _ => fun
  | [d1, d2] => { results := [.lit (.bool true)], args := [d1, d2] }
  | _ => none }
def linearLeastRow : OpenClaim := { program := "ytmneihdkkmgbkaa", sum := "8e05c041ff2f63afa2c9db3a42b2651a571642b0bb70d4583e6903c80757b275", func := "gauger/gaugerlaw08.LinearLeast", spec := "linearLeast", inPlace := ["math/bits.Add64"], unfollowed := true, recurses := true, apart := false }
def LinearLeastSaid : Prop := linearLeastRow.holds Try.pinned (OpenSpec.ofChange linearLeastSpec)

/-- ITS FALSE NEIGHBOUR: 'it returns false'. Refute it at one input. -/
def linearLeastWrong : ChangeSpec := { name := "linearLeast", fn := fun _ => fun
  | [d1, d2] => { results := [.lit (.bool false)], args := [d1, d2] }
  | _ => none }
def LinearLeastWrongFalsely : Prop := linearLeastRow.holds Try.pinned (OpenSpec.ofChange linearLeastWrong)

/-- 'gaugerlaw08.LinearMiddle': WHATEVER THE INPUT: true; the input reads as it did. -/
def linearMiddleSpec : ChangeSpec := { name := "linearMiddle", fn := fun _ => fun
  | [d1, d2, d3] => { results := [.lit (.bool true)], args := [d1, d2, d3] }
  | _ => none }
def linearMiddleRow : OpenClaim := { program := "ytmneihdkkmgbkaa", sum := "8e05c041ff2f63afa2c9db3a42b2651a571642b0bb70d4583e6903c80757b275", func := "gauger/gaugerlaw08.LinearMiddle", spec := "linearMiddle", inPlace := ["math/bits.Add64"], unfollowed := true, recurses := true, apart := false }
def LinearMiddleSaid : Prop := linearMiddleRow.holds Try.pinned (OpenSpec.ofChange linearMiddleSpec)

/-- ITS FALSE NEIGHBOUR: 'it returns false'. Refute it at one input. -/
def linearMiddleWrong : ChangeSpec := { name := "linearMiddle", fn := fun _ => fun
  | [d1, d2, d3] => { results := [.lit (.bool false)], args := [d1, d2, d3] }
  | _ => none }
def LinearMiddleWrongFalsely : Prop := linearMiddleRow.holds Try.pinned (OpenSpec.ofChange linearMiddleWrong)

/-- 'gaugerlaw08.LinearBack': WHATEVER THE INPUT: true; the input reads as it did. -/
def linearBackSpec : ChangeSpec := { name := "linearBack", fn := fun _ => fun
  | [d1, d2, d3] => { results := [.lit (.bool true)], args := [d1, d2, d3] }
  | _ => none }
def linearBackRow : OpenClaim := { program := "ytmneihdkkmgbkaa", sum := "8e05c041ff2f63afa2c9db3a42b2651a571642b0bb70d4583e6903c80757b275", func := "gauger/gaugerlaw08.LinearBack", spec := "linearBack", inPlace := ["math/bits.Add64"], unfollowed := true, recurses := true, apart := false }
def LinearBackSaid : Prop := linearBackRow.holds Try.pinned (OpenSpec.ofChange linearBackSpec)

/-- ITS FALSE NEIGHBOUR: 'it returns false'. Refute it at one input. -/
def linearBackWrong : ChangeSpec := { name := "linearBack", fn := fun _ => fun
  | [d1, d2, d3] => { results := [.lit (.bool false)], args := [d1, d2, d3] }
  | _ => none }
def LinearBackWrongFalsely : Prop := linearBackRow.holds Try.pinned (OpenSpec.ofChange linearBackWrong)

/- THE SECOND FORM. 'bulk': how many values and letters a reading holds, each counted each time it is reached (what is shared counts as often as it is met; a slice's spare places count too). A statement '..UptoSaid' is the law's where the arguments, and the package variables that the reading takes, are together of bulk at most 1048576: NARROWER than '..Said'. Prove '..Said' where nothing that the law and all that it calls make is longer than what came in: it says more and counts as full. Else prove '..UptoSaid'. A law counts once. -/
mutual
def uptoBulk {H : Type} : DataW H → Nat
  | .lit (.string bytes) => bytes.length + 1
  | .lit _ => 1
  | .nil => 1
  | .ptr d => uptoBulk d + 1
  | .slice elems spare => uptoBulkAll elems + uptoBulkAll spare + 1
  | .agg parts => uptoBulkAll parts + 1
  | .iface _ d => uptoBulk d + 1
  | .map entries => uptoBulkEntries entries + 1
  | .held _ => 1
def uptoBulkAll {H : Type} : List (DataW H) → Nat
  | [] => 0
  | d :: r => uptoBulk d + uptoBulkAll r
def uptoBulkEntries {H : Type} : List (Lit × DataW H) → Nat
  | [] => 0
  | x :: r => uptoBulkEntry x + uptoBulkEntries r
def uptoBulkEntry {H : Type} : Lit × DataW H → Nat
  | (.string bytes, d) => bytes.length + uptoBulk d + 1
  | (_, d) => uptoBulk d + 1
 end
def uptoSmall : (H : Type) → List (DataW H) → Bool := fun _ ds => decide (uptoBulkAll ds ≤ 1048576)
def OpenSpec.upto (s : _root_.Go.ChangeSpec) : _root_.Go.OpenSpec := { _root_.Go.OpenSpec.ofChange s with cond := some uptoSmall }

/-- 'gaugerlaw08.LinearPlays', WHERE WHAT IT READS IS OF BULK AT MOST 1048576: true; the input reads as it did. -/
def linearPlaysUptoRow : OpenClaim := { program := "ytmneihdkkmgbkaa", sum := "8e05c041ff2f63afa2c9db3a42b2651a571642b0bb70d4583e6903c80757b275", func := "gauger/gaugerlaw08.LinearPlays", spec := "linearPlays", inPlace := ["math/bits.Add64"], unfollowed := true, recurses := true, apart := false, narrowed := true }
def LinearPlaysUptoSaid : Prop := linearPlaysUptoRow.holds Try.pinned (OpenSpec.upto linearPlaysSpec)

/-- 'gaugerlaw08.LinearSums', WHERE WHAT IT READS IS OF BULK AT MOST 1048576: true; the input reads as it did. -/
def linearSumsUptoRow : OpenClaim := { program := "ytmneihdkkmgbkaa", sum := "8e05c041ff2f63afa2c9db3a42b2651a571642b0bb70d4583e6903c80757b275", func := "gauger/gaugerlaw08.LinearSums", spec := "linearSums", inPlace := ["math/bits.Add64"], unfollowed := true, recurses := true, apart := false, narrowed := true }
def LinearSumsUptoSaid : Prop := linearSumsUptoRow.holds Try.pinned (OpenSpec.upto linearSumsSpec)

/-- 'gaugerlaw08.LinearOrder', WHERE WHAT IT READS IS OF BULK AT MOST 1048576: true; the input reads as it did. -/
def linearOrderUptoRow : OpenClaim := { program := "ytmneihdkkmgbkaa", sum := "8e05c041ff2f63afa2c9db3a42b2651a571642b0bb70d4583e6903c80757b275", func := "gauger/gaugerlaw08.LinearOrder", spec := "linearOrder", inPlace := ["math/bits.Add64"], unfollowed := true, recurses := true, apart := false, narrowed := true }
def LinearOrderUptoSaid : Prop := linearOrderUptoRow.holds Try.pinned (OpenSpec.upto linearOrderSpec)

/-- 'gaugerlaw08.LinearLeast', WHERE WHAT IT READS IS OF BULK AT MOST 1048576: true; the input reads as it did. -/
def linearLeastUptoRow : OpenClaim := { program := "ytmneihdkkmgbkaa", sum := "8e05c041ff2f63afa2c9db3a42b2651a571642b0bb70d4583e6903c80757b275", func := "gauger/gaugerlaw08.LinearLeast", spec := "linearLeast", inPlace := ["math/bits.Add64"], unfollowed := true, recurses := true, apart := false, narrowed := true }
def LinearLeastUptoSaid : Prop := linearLeastUptoRow.holds Try.pinned (OpenSpec.upto linearLeastSpec)

/-- 'gaugerlaw08.LinearMiddle', WHERE WHAT IT READS IS OF BULK AT MOST 1048576: true; the input reads as it did. -/
def linearMiddleUptoRow : OpenClaim := { program := "ytmneihdkkmgbkaa", sum := "8e05c041ff2f63afa2c9db3a42b2651a571642b0bb70d4583e6903c80757b275", func := "gauger/gaugerlaw08.LinearMiddle", spec := "linearMiddle", inPlace := ["math/bits.Add64"], unfollowed := true, recurses := true, apart := false, narrowed := true }
def LinearMiddleUptoSaid : Prop := linearMiddleUptoRow.holds Try.pinned (OpenSpec.upto linearMiddleSpec)

/-- 'gaugerlaw08.LinearBack', WHERE WHAT IT READS IS OF BULK AT MOST 1048576: true; the input reads as it did. -/
def linearBackUptoRow : OpenClaim := { program := "ytmneihdkkmgbkaa", sum := "8e05c041ff2f63afa2c9db3a42b2651a571642b0bb70d4583e6903c80757b275", func := "gauger/gaugerlaw08.LinearBack", spec := "linearBack", inPlace := ["math/bits.Add64"], unfollowed := true, recurses := true, apart := false, narrowed := true }
def LinearBackUptoSaid : Prop := linearBackUptoRow.holds Try.pinned (OpenSpec.upto linearBackSpec)

end Rows
end Go.Proofs.Ytmneihdkkmgbkaa
