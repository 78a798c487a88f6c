/-
  No cell of these rows narrows 'for every input' (looked for: loops, veiled, ifaces, maps, wideKeys, modest, calm, conditions, laid).
  DERIVED. THE GIVEN ROWS OF THIS SEAT. 7 by the template 'for every input the law returns true; each argument reads behind the call as it read before'; 0 by the template 'total and deterministic' (their statements: YtahgkiceifblmaaTotals.lean).
  GIVEN WITH THE SEED: the statements are not yours to turn. If you find one false, say at which input.
  Laid BY PROGRAM, IN A SANDBOX (cutbox-rows.mjs): the forced cells as the released guide's own fill.sh prints them over the translation 91fac7b096a5f4ea… (all of the seat's roots in one cut). By AI agents, Wed Nov 11 2026. No macro, syntax, notation, axiom, sorry.
-/
import Derived.Test.YtahgkiceifblmaaChecked
import GoSem.Claim
import GoSem.ClaimJoined
import GoSem.ClaimMapViews
import Derived.JoinedTies
import Derived.KernelRfl
namespace Go.Proofs.Ytahgkiceifblmaa
/- THE CELL 'sum', in the pinned program and in every row, IS THE sha256 OF THE DUMP (.gsa) THAT YtahgkiceifblmaaProg.lean LOADS. Nothing in Lean hashes anything: it is a label: what it is worth is what the hold of that sum in a sandbox is worth. -/
noncomputable def Try.pinned : Pinned := { name := "ytahgkiceifblmaa", sum := "91fac7b096a5f4eafdc2842ad31fd3cf12d2f747b0bf8ebafae48dc33be89167", checked := Try.checked }
namespace Rows
def none {H : Type} : Left H := { results := [], args := [] }

/-- 'gaugerlaw10.SketchSums': WHATEVER THE INPUT: true; the input reads as it did. -/
def sketchSumsSpec : ChangeSpec := { name := "sketchSums", fn := fun _ => fun
  | [d1, d2] => { results := [.lit (.bool true)], args := [d1, d2] }
  | _ => none }
def sketchSumsRow : OpenClaim := { program := "ytahgkiceifblmaa", sum := "91fac7b096a5f4eafdc2842ad31fd3cf12d2f747b0bf8ebafae48dc33be89167", func := "gauger/gaugerlaw10.SketchSums", spec := "sketchSums", inPlace := ["math/bits.Add64"], unfollowed := true, recurses := true, apart := false }
def SketchSumsSaid : Prop := sketchSumsRow.holds Try.pinned (OpenSpec.ofChange sketchSumsSpec)

/-- ITS FALSE NEIGHBOUR: 'it returns false'. Refute it at one input. -/
def sketchSumsWrong : ChangeSpec := { name := "sketchSums", fn := fun _ => fun
  | [d1, d2] => { results := [.lit (.bool false)], args := [d1, d2] }
  | _ => none }
def SketchSumsWrongFalsely : Prop := sketchSumsRow.holds Try.pinned (OpenSpec.ofChange sketchSumsWrong)

/-- 'gaugerlaw10.SketchPoint': WHATEVER THE INPUT: true; the input reads as it did. -/
def sketchPointSpec : ChangeSpec := { name := "sketchPoint", fn := fun _ => fun
  | [d1, d2] => { results := [.lit (.bool true)], args := [d1, d2] }
  | _ => none }
def sketchPointRow : OpenClaim := { program := "ytahgkiceifblmaa", sum := "91fac7b096a5f4eafdc2842ad31fd3cf12d2f747b0bf8ebafae48dc33be89167", func := "gauger/gaugerlaw10.SketchPoint", spec := "sketchPoint", inPlace := ["math/bits.Add64"], unfollowed := true, recurses := true, apart := false }
def SketchPointSaid : Prop := sketchPointRow.holds Try.pinned (OpenSpec.ofChange sketchPointSpec)

/-- ITS FALSE NEIGHBOUR: 'it returns false'. Refute it at one input. -/
def sketchPointWrong : ChangeSpec := { name := "sketchPoint", fn := fun _ => fun
  | [d1, d2] => { results := [.lit (.bool false)], args := [d1, d2] }
  | _ => none }
def SketchPointWrongFalsely : Prop := sketchPointRow.holds Try.pinned (OpenSpec.ofChange sketchPointWrong)

/-- 'gaugerlaw10.SketchMedian': WHATEVER THE INPUT: true; the input reads as it did. -/
def sketchMedianSpec : ChangeSpec := { name := "sketchMedian", fn := fun _ => fun
  | [d1, d2, d3] => { results := [.lit (.bool true)], args := [d1, d2, d3] }
  | _ => none }
def sketchMedianRow : OpenClaim := { program := "ytahgkiceifblmaa", sum := "91fac7b096a5f4eafdc2842ad31fd3cf12d2f747b0bf8ebafae48dc33be89167", func := "gauger/gaugerlaw10.SketchMedian", spec := "sketchMedian", inPlace := ["math/bits.Add64"], unfollowed := true, recurses := true, apart := false }
def SketchMedianSaid : Prop := sketchMedianRow.holds Try.pinned (OpenSpec.ofChange sketchMedianSpec)

/-- ITS FALSE NEIGHBOUR: 'it returns false'. Refute it at one input. -/
def sketchMedianWrong : ChangeSpec := { name := "sketchMedian", fn := fun _ => fun
  | [d1, d2, d3] => { results := [.lit (.bool false)], args := [d1, d2, d3] }
  | _ => none }
def SketchMedianWrongFalsely : Prop := sketchMedianRow.holds Try.pinned (OpenSpec.ofChange sketchMedianWrong)

/-- 'gaugerlaw10.SketchBounds': WHATEVER THE INPUT: true; the input reads as it did. -/
def sketchBoundsSpec : ChangeSpec := { name := "sketchBounds", fn := fun _ => fun
  | [d1, d2, d3] => { results := [.lit (.bool true)], args := [d1, d2, d3] }
  | _ => none }
def sketchBoundsRow : OpenClaim := { program := "ytahgkiceifblmaa", sum := "91fac7b096a5f4eafdc2842ad31fd3cf12d2f747b0bf8ebafae48dc33be89167", func := "gauger/gaugerlaw10.SketchBounds", spec := "sketchBounds", inPlace := ["math/bits.Add64"], unfollowed := true, recurses := true, apart := false }
def SketchBoundsSaid : Prop := sketchBoundsRow.holds Try.pinned (OpenSpec.ofChange sketchBoundsSpec)

/-- ITS FALSE NEIGHBOUR: 'it returns false'. Refute it at one input. -/
def sketchBoundsWrong : ChangeSpec := { name := "sketchBounds", fn := fun _ => fun
  | [d1, d2, d3] => { results := [.lit (.bool false)], args := [d1, d2, d3] }
  | _ => none }
def SketchBoundsWrongFalsely : Prop := sketchBoundsRow.holds Try.pinned (OpenSpec.ofChange sketchBoundsWrong)

/-- 'gaugerlaw10.SketchJoins': WHATEVER THE INPUT: true; the input reads as it did. -/
def sketchJoinsSpec : ChangeSpec := { name := "sketchJoins", fn := fun _ => fun
  | [d1, d2, d3] => { results := [.lit (.bool true)], args := [d1, d2, d3] }
  | _ => none }
def sketchJoinsRow : OpenClaim := { program := "ytahgkiceifblmaa", sum := "91fac7b096a5f4eafdc2842ad31fd3cf12d2f747b0bf8ebafae48dc33be89167", func := "gauger/gaugerlaw10.SketchJoins", spec := "sketchJoins", inPlace := ["math/bits.Add64", "math/bits.Sub64"], unfollowed := true, recurses := true, apart := false }
def SketchJoinsSaid : Prop := sketchJoinsRow.holds Try.pinned (OpenSpec.ofChange sketchJoinsSpec)

/-- ITS FALSE NEIGHBOUR: 'it returns false'. Refute it at one input. -/
def sketchJoinsWrong : ChangeSpec := { name := "sketchJoins", fn := fun _ => fun
  | [d1, d2, d3] => { results := [.lit (.bool false)], args := [d1, d2, d3] }
  | _ => none }
def SketchJoinsWrongFalsely : Prop := sketchJoinsRow.holds Try.pinned (OpenSpec.ofChange sketchJoinsWrong)

/-- 'gaugerlaw10.SketchUnlike': WHATEVER THE INPUT: true; the input reads as it did. -/
def sketchUnlikeSpec : ChangeSpec := { name := "sketchUnlike", fn := fun _ => fun
  | [d1, d2] => { results := [.lit (.bool true)], args := [d1, d2] }
  | _ => none }
def sketchUnlikeRow : OpenClaim := { program := "ytahgkiceifblmaa", sum := "91fac7b096a5f4eafdc2842ad31fd3cf12d2f747b0bf8ebafae48dc33be89167", func := "gauger/gaugerlaw10.SketchUnlike", spec := "sketchUnlike", inPlace := ["math/bits.Add64", "math/bits.Sub64"], unfollowed := true, recurses := true, apart := false }
def SketchUnlikeSaid : Prop := sketchUnlikeRow.holds Try.pinned (OpenSpec.ofChange sketchUnlikeSpec)

/-- ITS FALSE NEIGHBOUR: 'it returns false'. Refute it at one input. -/
def sketchUnlikeWrong : ChangeSpec := { name := "sketchUnlike", fn := fun _ => fun
  | [d1, d2] => { results := [.lit (.bool false)], args := [d1, d2] }
  | _ => none }
def SketchUnlikeWrongFalsely : Prop := sketchUnlikeRow.holds Try.pinned (OpenSpec.ofChange sketchUnlikeWrong)

/-- 'gaugerlaw10.SketchLoads': WHATEVER THE INPUT: true; the input reads as it did. -/
def sketchLoadsSpec : ChangeSpec := { name := "sketchLoads", fn := fun _ => fun
  | [d1, d2] => { results := [.lit (.bool true)], args := [d1, d2] }
  | _ => none }
def sketchLoadsRow : OpenClaim := { program := "ytahgkiceifblmaa", sum := "91fac7b096a5f4eafdc2842ad31fd3cf12d2f747b0bf8ebafae48dc33be89167", func := "gauger/gaugerlaw10.SketchLoads", spec := "sketchLoads", inPlace := ["math/bits.Add64"], unfollowed := true, recurses := true, apart := false }
def SketchLoadsSaid : Prop := sketchLoadsRow.holds Try.pinned (OpenSpec.ofChange sketchLoadsSpec)

/-- ITS FALSE NEIGHBOUR: 'it returns false'. Refute it at one input. -/
def sketchLoadsWrong : ChangeSpec := { name := "sketchLoads", fn := fun _ => fun
  | [d1, d2] => { results := [.lit (.bool false)], args := [d1, d2] }
  | _ => none }
def SketchLoadsWrongFalsely : Prop := sketchLoadsRow.holds Try.pinned (OpenSpec.ofChange sketchLoadsWrong)

/- THE SECOND FORM. 'bulk': how many values and letters a reading holds, each counted each time it is reached (what is shared counts as often as it is met; a slice's spare places count too). A statement '..UptoSaid' is the law's where the arguments, and the package variables that the reading takes, are together of bulk at most 1048576: NARROWER than '..Said'. Prove '..Said' where nothing that the law and all that it calls make is longer than what came in: it says more and counts as full. Else prove '..UptoSaid'. A law counts once. -/
mutual
def uptoBulk {H : Type} : DataW H → Nat
  | .lit (.string bytes) => bytes.length + 1
  | .lit _ => 1
  | .nil => 1
  | .ptr d => uptoBulk d + 1
  | .slice elems spare => uptoBulkAll elems + uptoBulkAll spare + 1
  | .agg parts => uptoBulkAll parts + 1
  | .iface _ d => uptoBulk d + 1
  | .map entries => uptoBulkEntries entries + 1
  | .held _ => 1
def uptoBulkAll {H : Type} : List (DataW H) → Nat
  | [] => 0
  | d :: r => uptoBulk d + uptoBulkAll r
def uptoBulkEntries {H : Type} : List (Lit × DataW H) → Nat
  | [] => 0
  | x :: r => uptoBulkEntry x + uptoBulkEntries r
def uptoBulkEntry {H : Type} : Lit × DataW H → Nat
  | (.string bytes, d) => bytes.length + uptoBulk d + 1
  | (_, d) => uptoBulk d + 1
 end
def uptoSmall : (H : Type) → List (DataW H) → Bool := fun _ ds => decide (uptoBulkAll ds ≤ 1048576)
def OpenSpec.upto (s : _root_.Go.ChangeSpec) : _root_.Go.OpenSpec := { _root_.Go.OpenSpec.ofChange s with cond := some uptoSmall }

/-- 'gaugerlaw10.SketchSums', WHERE WHAT IT READS IS OF BULK AT MOST 1048576: true; the input reads as it did. -/
def sketchSumsUptoRow : OpenClaim := { program := "ytahgkiceifblmaa", sum := "91fac7b096a5f4eafdc2842ad31fd3cf12d2f747b0bf8ebafae48dc33be89167", func := "gauger/gaugerlaw10.SketchSums", spec := "sketchSums", inPlace := ["math/bits.Add64"], unfollowed := true, recurses := true, apart := false, narrowed := true }
def SketchSumsUptoSaid : Prop := sketchSumsUptoRow.holds Try.pinned (OpenSpec.upto sketchSumsSpec)

/-- 'gaugerlaw10.SketchPoint', WHERE WHAT IT READS IS OF BULK AT MOST 1048576: true; the input reads as it did. -/
def sketchPointUptoRow : OpenClaim := { program := "ytahgkiceifblmaa", sum := "91fac7b096a5f4eafdc2842ad31fd3cf12d2f747b0bf8ebafae48dc33be89167", func := "gauger/gaugerlaw10.SketchPoint", spec := "sketchPoint", inPlace := ["math/bits.Add64"], unfollowed := true, recurses := true, apart := false, narrowed := true }
def SketchPointUptoSaid : Prop := sketchPointUptoRow.holds Try.pinned (OpenSpec.upto sketchPointSpec)

/-- 'gaugerlaw10.SketchMedian', WHERE WHAT IT READS IS OF BULK AT MOST 1048576: true; the input reads as it did. -/
def sketchMedianUptoRow : OpenClaim := { program := "ytahgkiceifblmaa", sum := "91fac7b096a5f4eafdc2842ad31fd3cf12d2f747b0bf8ebafae48dc33be89167", func := "gauger/gaugerlaw10.SketchMedian", spec := "sketchMedian", inPlace := ["math/bits.Add64"], unfollowed := true, recurses := true, apart := false, narrowed := true }
def SketchMedianUptoSaid : Prop := sketchMedianUptoRow.holds Try.pinned (OpenSpec.upto sketchMedianSpec)

/-- 'gaugerlaw10.SketchBounds', WHERE WHAT IT READS IS OF BULK AT MOST 1048576: true; the input reads as it did. -/
def sketchBoundsUptoRow : OpenClaim := { program := "ytahgkiceifblmaa", sum := "91fac7b096a5f4eafdc2842ad31fd3cf12d2f747b0bf8ebafae48dc33be89167", func := "gauger/gaugerlaw10.SketchBounds", spec := "sketchBounds", inPlace := ["math/bits.Add64"], unfollowed := true, recurses := true, apart := false, narrowed := true }
def SketchBoundsUptoSaid : Prop := sketchBoundsUptoRow.holds Try.pinned (OpenSpec.upto sketchBoundsSpec)

/-- 'gaugerlaw10.SketchJoins', WHERE WHAT IT READS IS OF BULK AT MOST 1048576: true; the input reads as it did. -/
def sketchJoinsUptoRow : OpenClaim := { program := "ytahgkiceifblmaa", sum := "91fac7b096a5f4eafdc2842ad31fd3cf12d2f747b0bf8ebafae48dc33be89167", func := "gauger/gaugerlaw10.SketchJoins", spec := "sketchJoins", inPlace := ["math/bits.Add64", "math/bits.Sub64"], unfollowed := true, recurses := true, apart := false, narrowed := true }
def SketchJoinsUptoSaid : Prop := sketchJoinsUptoRow.holds Try.pinned (OpenSpec.upto sketchJoinsSpec)

/-- 'gaugerlaw10.SketchUnlike', WHERE WHAT IT READS IS OF BULK AT MOST 1048576: true; the input reads as it did. -/
def sketchUnlikeUptoRow : OpenClaim := { program := "ytahgkiceifblmaa", sum := "91fac7b096a5f4eafdc2842ad31fd3cf12d2f747b0bf8ebafae48dc33be89167", func := "gauger/gaugerlaw10.SketchUnlike", spec := "sketchUnlike", inPlace := ["math/bits.Add64", "math/bits.Sub64"], unfollowed := true, recurses := true, apart := false, narrowed := true }
def SketchUnlikeUptoSaid : Prop := sketchUnlikeUptoRow.holds Try.pinned (OpenSpec.upto sketchUnlikeSpec)

/-- 'gaugerlaw10.SketchLoads', WHERE WHAT IT READS IS OF BULK AT MOST 1048576: true; the input reads as it did. -/
def sketchLoadsUptoRow : OpenClaim := { program := "ytahgkiceifblmaa", sum := "91fac7b096a5f4eafdc2842ad31fd3cf12d2f747b0bf8ebafae48dc33be89167", func := "gauger/gaugerlaw10.SketchLoads", spec := "sketchLoads", inPlace := ["math/bits.Add64"], unfollowed := true, recurses := true, apart := false, narrowed := true }
def SketchLoadsUptoSaid : Prop := sketchLoadsUptoRow.holds Try.pinned (OpenSpec.upto sketchLoadsSpec)

end Rows
end Go.Proofs.Ytahgkiceifblmaa
