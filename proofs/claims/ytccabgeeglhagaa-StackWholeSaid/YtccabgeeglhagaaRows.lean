/-
  No cell of these rows narrows 'for every input' (looked for: loops, veiled, ifaces, maps, wideKeys, modest, calm, conditions, laid).
  DERIVED. THE GIVEN ROWS OF THIS SEAT. 6 by the template 'for every input the law returns true; each argument reads behind the call as it read before'; 0 by the template 'total and deterministic' (their statements: YtccabgeeglhagaaTotals.lean).
  GIVEN WITH THE SEED: the statements are not yours to turn. If you find one false, say at which input.
  Laid BY PROGRAM, IN A SANDBOX (cutbox-rows.mjs): the forced cells as the released guide's own fill.sh prints them over the translation 2738cf76b9ca020c… (all of the seat's roots in one cut). By AI agents, Wed Nov 11 2026. No macro, syntax, notation, axiom, sorry.
-/
import Derived.Test.YtccabgeeglhagaaChecked
import GoSem.Claim
import GoSem.ClaimJoined
import GoSem.ClaimMapViews
import Derived.JoinedTies
import Derived.KernelRfl
namespace Go.Proofs.Ytccabgeeglhagaa
/- THE CELL 'sum', in the pinned program and in every row, IS THE sha256 OF THE DUMP (.gsa) THAT YtccabgeeglhagaaProg.lean LOADS. Nothing in Lean hashes anything: it is a label: what it is worth is what the hold of that sum in a sandbox is worth. -/
noncomputable def Try.pinned : Pinned := { name := "ytccabgeeglhagaa", sum := "2738cf76b9ca020ce1fa24b603d601d1a7be04fef97fa73abb38e578c772398d", checked := Try.checked }
namespace Rows
def none {H : Type} : Left H := { results := [], args := [] }

/-- 'gaugerlaw15.StackSums': WHATEVER THE INPUT: true; the input reads as it did. -/
def stackSumsSpec : ChangeSpec := { name := "stackSums", fn := fun _ => fun
  | [d1, d2, d3] => { results := [.lit (.bool true)], args := [d1, d2, d3] }
  | _ => none }
def stackSumsRow : OpenClaim := { program := "ytccabgeeglhagaa", sum := "2738cf76b9ca020ce1fa24b603d601d1a7be04fef97fa73abb38e578c772398d", func := "gauger/gaugerlaw15.StackSums", spec := "stackSums", unfollowed := true, recurses := true, apart := false }
def StackSumsSaid : Prop := stackSumsRow.holds Try.pinned (OpenSpec.ofChange stackSumsSpec)

/-- ITS FALSE NEIGHBOUR: 'it returns false'. Refute it at one input. -/
def stackSumsWrong : ChangeSpec := { name := "stackSums", fn := fun _ => fun
  | [d1, d2, d3] => { results := [.lit (.bool false)], args := [d1, d2, d3] }
  | _ => none }
def StackSumsWrongFalsely : Prop := stackSumsRow.holds Try.pinned (OpenSpec.ofChange stackSumsWrong)

/-- 'gaugerlaw15.StackTotal': WHATEVER THE INPUT: true; the input reads as it did. -/
def stackTotalSpec : ChangeSpec := { name := "stackTotal", fn := fun _ => fun
  | [d1, d2, d3] => { results := [.lit (.bool true)], args := [d1, d2, d3] }
  | _ => none }
def stackTotalRow : OpenClaim := { program := "ytccabgeeglhagaa", sum := "2738cf76b9ca020ce1fa24b603d601d1a7be04fef97fa73abb38e578c772398d", func := "gauger/gaugerlaw15.StackTotal", spec := "stackTotal", unfollowed := true, recurses := true, apart := false }
def StackTotalSaid : Prop := stackTotalRow.holds Try.pinned (OpenSpec.ofChange stackTotalSpec)

/-- ITS FALSE NEIGHBOUR: 'it returns false'. Refute it at one input. -/
def stackTotalWrong : ChangeSpec := { name := "stackTotal", fn := fun _ => fun
  | [d1, d2, d3] => { results := [.lit (.bool false)], args := [d1, d2, d3] }
  | _ => none }
def StackTotalWrongFalsely : Prop := stackTotalRow.holds Try.pinned (OpenSpec.ofChange stackTotalWrong)

/-- 'gaugerlaw15.StackOver': WHATEVER THE INPUT: true; the input reads as it did. -/
def stackOverSpec : ChangeSpec := { name := "stackOver", fn := fun _ => fun
  | [d1, d2, d3] => { results := [.lit (.bool true)], args := [d1, d2, d3] }
  | _ => none }
def stackOverRow : OpenClaim := { program := "ytccabgeeglhagaa", sum := "2738cf76b9ca020ce1fa24b603d601d1a7be04fef97fa73abb38e578c772398d", func := "gauger/gaugerlaw15.StackOver", spec := "stackOver", unfollowed := true, recurses := true, apart := false }
def StackOverSaid : Prop := stackOverRow.holds Try.pinned (OpenSpec.ofChange stackOverSpec)

/-- ITS FALSE NEIGHBOUR: 'it returns false'. Refute it at one input. -/
def stackOverWrong : ChangeSpec := { name := "stackOver", fn := fun _ => fun
  | [d1, d2, d3] => { results := [.lit (.bool false)], args := [d1, d2, d3] }
  | _ => none }
def StackOverWrongFalsely : Prop := stackOverRow.holds Try.pinned (OpenSpec.ofChange stackOverWrong)

/-- 'gaugerlaw15.StackOrder': WHATEVER THE INPUT: true; the input reads as it did. -/
def stackOrderSpec : ChangeSpec := { name := "stackOrder", fn := fun _ => fun
  | [d1, d2, d3] => { results := [.lit (.bool true)], args := [d1, d2, d3] }
  | _ => none }
def stackOrderRow : OpenClaim := { program := "ytccabgeeglhagaa", sum := "2738cf76b9ca020ce1fa24b603d601d1a7be04fef97fa73abb38e578c772398d", func := "gauger/gaugerlaw15.StackOrder", spec := "stackOrder", unfollowed := true, recurses := true, apart := false }
def StackOrderSaid : Prop := stackOrderRow.holds Try.pinned (OpenSpec.ofChange stackOrderSpec)

/-- ITS FALSE NEIGHBOUR: 'it returns false'. Refute it at one input. -/
def stackOrderWrong : ChangeSpec := { name := "stackOrder", fn := fun _ => fun
  | [d1, d2, d3] => { results := [.lit (.bool false)], args := [d1, d2, d3] }
  | _ => none }
def StackOrderWrongFalsely : Prop := stackOrderRow.holds Try.pinned (OpenSpec.ofChange stackOrderWrong)

/-- 'gaugerlaw15.StackWhole': WHATEVER THE INPUT: true; the input reads as it did. -/
def stackWholeSpec : ChangeSpec := { name := "stackWhole", fn := fun _ => fun
  | [d1, d2] => { results := [.lit (.bool true)], args := [d1, d2] }
  | _ => none }
def stackWholeRow : OpenClaim := { program := "ytccabgeeglhagaa", sum := "2738cf76b9ca020ce1fa24b603d601d1a7be04fef97fa73abb38e578c772398d", func := "gauger/gaugerlaw15.StackWhole", spec := "stackWhole", unfollowed := true, recurses := true, apart := false }
def StackWholeSaid : Prop := stackWholeRow.holds Try.pinned (OpenSpec.ofChange stackWholeSpec)

/-- ITS FALSE NEIGHBOUR: 'it returns false'. Refute it at one input. -/
def stackWholeWrong : ChangeSpec := { name := "stackWhole", fn := fun _ => fun
  | [d1, d2] => { results := [.lit (.bool false)], args := [d1, d2] }
  | _ => none }
def StackWholeWrongFalsely : Prop := stackWholeRow.holds Try.pinned (OpenSpec.ofChange stackWholeWrong)

/-- 'gaugerlaw15.StackMakes': WHATEVER THE INPUT: true; the input reads as it did. -/
def stackMakesSpec : ChangeSpec := { name := "stackMakes", fn := fun _ => fun
  | [d] => { results := [.lit (.bool true)], args := [d] }
  | _ => none }
def stackMakesRow : OpenClaim := { program := "ytccabgeeglhagaa", sum := "2738cf76b9ca020ce1fa24b603d601d1a7be04fef97fa73abb38e578c772398d", func := "gauger/gaugerlaw15.StackMakes", spec := "stackMakes", unfollowed := true, recurses := true, apart := false }
def StackMakesSaid : Prop := stackMakesRow.holds Try.pinned (OpenSpec.ofChange stackMakesSpec)

/-- ITS FALSE NEIGHBOUR: 'it returns false'. Refute it at one input. -/
def stackMakesWrong : ChangeSpec := { name := "stackMakes", fn := fun _ => fun
  | [d] => { results := [.lit (.bool false)], args := [d] }
  | _ => none }
def StackMakesWrongFalsely : Prop := stackMakesRow.holds Try.pinned (OpenSpec.ofChange stackMakesWrong)

/- THE SECOND FORM. 'bulk': how many values and letters a reading holds, each counted each time it is reached (what is shared counts as often as it is met; a slice's spare places count too). A statement '..UptoSaid' is the law's where the arguments, and the package variables that the reading takes, are together of bulk at most 1048576: NARROWER than '..Said'. Prove '..Said' where nothing that the law and all that it calls make is longer than what came in: it says more and counts as full. Else prove '..UptoSaid'. A law counts once. -/
mutual
def uptoBulk {H : Type} : DataW H → Nat
  | .lit (.string bytes) => bytes.length + 1
  | .lit _ => 1
  | .nil => 1
  | .ptr d => uptoBulk d + 1
  | .slice elems spare => uptoBulkAll elems + uptoBulkAll spare + 1
  | .agg parts => uptoBulkAll parts + 1
  | .iface _ d => uptoBulk d + 1
  | .map entries => uptoBulkEntries entries + 1
  | .held _ => 1
def uptoBulkAll {H : Type} : List (DataW H) → Nat
  | [] => 0
  | d :: r => uptoBulk d + uptoBulkAll r
def uptoBulkEntries {H : Type} : List (Lit × DataW H) → Nat
  | [] => 0
  | x :: r => uptoBulkEntry x + uptoBulkEntries r
def uptoBulkEntry {H : Type} : Lit × DataW H → Nat
  | (.string bytes, d) => bytes.length + uptoBulk d + 1
  | (_, d) => uptoBulk d + 1
 end
def uptoSmall : (H : Type) → List (DataW H) → Bool := fun _ ds => decide (uptoBulkAll ds ≤ 1048576)
def OpenSpec.upto (s : _root_.Go.ChangeSpec) : _root_.Go.OpenSpec := { _root_.Go.OpenSpec.ofChange s with cond := some uptoSmall }

/-- 'gaugerlaw15.StackSums', WHERE WHAT IT READS IS OF BULK AT MOST 1048576: true; the input reads as it did. -/
def stackSumsUptoRow : OpenClaim := { program := "ytccabgeeglhagaa", sum := "2738cf76b9ca020ce1fa24b603d601d1a7be04fef97fa73abb38e578c772398d", func := "gauger/gaugerlaw15.StackSums", spec := "stackSums", unfollowed := true, recurses := true, apart := false, narrowed := true }
def StackSumsUptoSaid : Prop := stackSumsUptoRow.holds Try.pinned (OpenSpec.upto stackSumsSpec)

/-- 'gaugerlaw15.StackTotal', WHERE WHAT IT READS IS OF BULK AT MOST 1048576: true; the input reads as it did. -/
def stackTotalUptoRow : OpenClaim := { program := "ytccabgeeglhagaa", sum := "2738cf76b9ca020ce1fa24b603d601d1a7be04fef97fa73abb38e578c772398d", func := "gauger/gaugerlaw15.StackTotal", spec := "stackTotal", unfollowed := true, recurses := true, apart := false, narrowed := true }
def StackTotalUptoSaid : Prop := stackTotalUptoRow.holds Try.pinned (OpenSpec.upto stackTotalSpec)

/-- 'gaugerlaw15.StackOver', WHERE WHAT IT READS IS OF BULK AT MOST 1048576: true; the input reads as it did. -/
def stackOverUptoRow : OpenClaim := { program := "ytccabgeeglhagaa", sum := "2738cf76b9ca020ce1fa24b603d601d1a7be04fef97fa73abb38e578c772398d", func := "gauger/gaugerlaw15.StackOver", spec := "stackOver", unfollowed := true, recurses := true, apart := false, narrowed := true }
def StackOverUptoSaid : Prop := stackOverUptoRow.holds Try.pinned (OpenSpec.upto stackOverSpec)

/-- 'gaugerlaw15.StackOrder', WHERE WHAT IT READS IS OF BULK AT MOST 1048576: true; the input reads as it did. -/
def stackOrderUptoRow : OpenClaim := { program := "ytccabgeeglhagaa", sum := "2738cf76b9ca020ce1fa24b603d601d1a7be04fef97fa73abb38e578c772398d", func := "gauger/gaugerlaw15.StackOrder", spec := "stackOrder", unfollowed := true, recurses := true, apart := false, narrowed := true }
def StackOrderUptoSaid : Prop := stackOrderUptoRow.holds Try.pinned (OpenSpec.upto stackOrderSpec)

/-- 'gaugerlaw15.StackWhole', WHERE WHAT IT READS IS OF BULK AT MOST 1048576: true; the input reads as it did. -/
def stackWholeUptoRow : OpenClaim := { program := "ytccabgeeglhagaa", sum := "2738cf76b9ca020ce1fa24b603d601d1a7be04fef97fa73abb38e578c772398d", func := "gauger/gaugerlaw15.StackWhole", spec := "stackWhole", unfollowed := true, recurses := true, apart := false, narrowed := true }
def StackWholeUptoSaid : Prop := stackWholeUptoRow.holds Try.pinned (OpenSpec.upto stackWholeSpec)

/-- 'gaugerlaw15.StackMakes', WHERE WHAT IT READS IS OF BULK AT MOST 1048576: true; the input reads as it did. -/
def stackMakesUptoRow : OpenClaim := { program := "ytccabgeeglhagaa", sum := "2738cf76b9ca020ce1fa24b603d601d1a7be04fef97fa73abb38e578c772398d", func := "gauger/gaugerlaw15.StackMakes", spec := "stackMakes", unfollowed := true, recurses := true, apart := false, narrowed := true }
def StackMakesUptoSaid : Prop := stackMakesUptoRow.holds Try.pinned (OpenSpec.upto stackMakesSpec)

end Rows
end Go.Proofs.Ytccabgeeglhagaa
