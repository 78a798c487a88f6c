/-
  No cell of these rows narrows 'for every input' (looked for: loops, veiled, ifaces, maps, wideKeys, modest, calm, conditions, laid).
  DERIVED. THE GIVEN ROWS OF THIS SEAT. 4 by the template 'for every input the law returns true; each argument reads behind the call as it read before'; 0 by the template 'total and deterministic' (their statements: YtiblpdjehknbcaaGreatTotals.lean).
  GIVEN WITH THE SEED: the statements are not yours to turn. If you find one false, say at which input.
  Laid BY PROGRAM, IN A SANDBOX (cutbox-rows.mjs): the forced cells as the released guide's own fill.sh prints them over the translation 38a27b76b4a2463c… (all of the seat's roots in one cut). By AI agents, Wed Nov 11 2026. No macro, syntax, notation, axiom, sorry.
-/
import Derived.Test.YtiblpdjehknbcaaGreatChecked
import GoSem.Claim
import GoSem.ClaimJoined
import GoSem.ClaimMapViews
import Derived.JoinedTies
import Derived.KernelRfl
namespace Go.Proofs.YtiblpdjehknbcaaGreat
/- THE CELL 'sum', in the pinned program and in every row, IS THE sha256 OF THE DUMP (.gsa) THAT YtiblpdjehknbcaaGreatProg.lean LOADS. Nothing in Lean hashes anything: it is a label: what it is worth is what the hold of that sum in a sandbox is worth. -/
noncomputable def Tryz.pinned : Pinned := { name := "ytiblpdjehknbcaagreat", sum := "38a27b76b4a2463c620e064f674575d4a6f6792bf9de4bfc02326858e8df38f9", checked := Tryz.checked }
namespace Rows
def none {H : Type} : Left H := { results := [], args := [] }

/-- 'gaugerlaw17.QuantTells': WHATEVER THE INPUT: true; the input reads as it did. -/
def quantTellsSpec : ChangeSpec := { name := "quantTells", fn := fun _ => fun
  | [d1, d2] => { results := [.lit (.bool true)], args := [d1, d2] }
  | _ => none }
def quantTellsRow : OpenClaim := { program := "ytiblpdjehknbcaagreat", sum := "38a27b76b4a2463c620e064f674575d4a6f6792bf9de4bfc02326858e8df38f9", func := "gauger/gaugerlaw17.QuantTells", spec := "quantTells", inPlace := ["math/bits.Sub64"], unfollowed := true, recurses := true, apart := false }
def QuantTellsSaid : Prop := quantTellsRow.holds Tryz.pinned (OpenSpec.ofChange quantTellsSpec)

/-- ITS FALSE NEIGHBOUR: 'it returns false'. Refute it at one input. -/
def quantTellsWrong : ChangeSpec := { name := "quantTells", fn := fun _ => fun
  | [d1, d2] => { results := [.lit (.bool false)], args := [d1, d2] }
  | _ => none }
def QuantTellsWrongFalsely : Prop := quantTellsRow.holds Tryz.pinned (OpenSpec.ofChange quantTellsWrong)

/-- 'gaugerlaw17.QuantLoaded': WHATEVER THE INPUT: true; the input reads as it did. -/
def quantLoadedSpec : ChangeSpec := { name := "quantLoaded", fn := fun _ => fun
  | [d1, d2, d3] => { results := [.lit (.bool true)], args := [d1, d2, d3] }
  | _ => none }
def quantLoadedRow : OpenClaim := { program := "ytiblpdjehknbcaagreat", sum := "38a27b76b4a2463c620e064f674575d4a6f6792bf9de4bfc02326858e8df38f9", func := "gauger/gaugerlaw17.QuantLoaded", spec := "quantLoaded", inPlace := ["math/bits.Sub64"], unfollowed := true, recurses := true, apart := false }
def QuantLoadedSaid : Prop := quantLoadedRow.holds Tryz.pinned (OpenSpec.ofChange quantLoadedSpec)

/-- ITS FALSE NEIGHBOUR: 'it returns false'. Refute it at one input. -/
def quantLoadedWrong : ChangeSpec := { name := "quantLoaded", fn := fun _ => fun
  | [d1, d2, d3] => { results := [.lit (.bool false)], args := [d1, d2, d3] }
  | _ => none }
def QuantLoadedWrongFalsely : Prop := quantLoadedRow.holds Tryz.pinned (OpenSpec.ofChange quantLoadedWrong)

/-- 'gaugerlaw17.QuantBounds': WHATEVER THE INPUT: true; the input reads as it did. -/
def quantBoundsSpec : ChangeSpec := { name := "quantBounds", fn := fun _ => fun
  | [d1, d2] => { results := [.lit (.bool true)], args := [d1, d2] }
  | _ => none }
def quantBoundsRow : OpenClaim := { program := "ytiblpdjehknbcaagreat", sum := "38a27b76b4a2463c620e064f674575d4a6f6792bf9de4bfc02326858e8df38f9", func := "gauger/gaugerlaw17.QuantBounds", spec := "quantBounds", inPlace := ["math/bits.Sub64"], unfollowed := true, recurses := true, apart := false }
def QuantBoundsSaid : Prop := quantBoundsRow.holds Tryz.pinned (OpenSpec.ofChange quantBoundsSpec)

/-- ITS FALSE NEIGHBOUR: 'it returns false'. Refute it at one input. -/
def quantBoundsWrong : ChangeSpec := { name := "quantBounds", fn := fun _ => fun
  | [d1, d2] => { results := [.lit (.bool false)], args := [d1, d2] }
  | _ => none }
def QuantBoundsWrongFalsely : Prop := quantBoundsRow.holds Tryz.pinned (OpenSpec.ofChange quantBoundsWrong)

/-- 'gaugerlaw17.QuantExact': WHATEVER THE INPUT: true; the input reads as it did. -/
def quantExactSpec : ChangeSpec := { name := "quantExact", fn := fun _ => fun
  | [d1, d2] => { results := [.lit (.bool true)], args := [d1, d2] }
  | _ => none }
def quantExactRow : OpenClaim := { program := "ytiblpdjehknbcaagreat", sum := "38a27b76b4a2463c620e064f674575d4a6f6792bf9de4bfc02326858e8df38f9", func := "gauger/gaugerlaw17.QuantExact", spec := "quantExact", inPlace := ["math/bits.Sub64"], unfollowed := true, recurses := true, apart := false }
def QuantExactSaid : Prop := quantExactRow.holds Tryz.pinned (OpenSpec.ofChange quantExactSpec)

/-- ITS FALSE NEIGHBOUR: 'it returns false'. Refute it at one input. -/
def quantExactWrong : ChangeSpec := { name := "quantExact", fn := fun _ => fun
  | [d1, d2] => { results := [.lit (.bool false)], args := [d1, d2] }
  | _ => none }
def QuantExactWrongFalsely : Prop := quantExactRow.holds Tryz.pinned (OpenSpec.ofChange quantExactWrong)

/- THE SECOND FORM. 'bulk': how many values and letters a reading holds, each counted each time it is reached (what is shared counts as often as it is met; a slice's spare places count too). A statement '..UptoSaid' is the law's where the arguments, and the package variables that the reading takes, are together of bulk at most 1048576: NARROWER than '..Said'. Prove '..Said' where nothing that the law and all that it calls make is longer than what came in: it says more and counts as full. Else prove '..UptoSaid'. A law counts once. -/
mutual
def uptoBulk {H : Type} : DataW H → Nat
  | .lit (.string bytes) => bytes.length + 1
  | .lit _ => 1
  | .nil => 1
  | .ptr d => uptoBulk d + 1
  | .slice elems spare => uptoBulkAll elems + uptoBulkAll spare + 1
  | .agg parts => uptoBulkAll parts + 1
  | .iface _ d => uptoBulk d + 1
  | .map entries => uptoBulkEntries entries + 1
  | .held _ => 1
def uptoBulkAll {H : Type} : List (DataW H) → Nat
  | [] => 0
  | d :: r => uptoBulk d + uptoBulkAll r
def uptoBulkEntries {H : Type} : List (Lit × DataW H) → Nat
  | [] => 0
  | x :: r => uptoBulkEntry x + uptoBulkEntries r
def uptoBulkEntry {H : Type} : Lit × DataW H → Nat
  | (.string bytes, d) => bytes.length + uptoBulk d + 1
  | (_, d) => uptoBulk d + 1
 end
def uptoSmall : (H : Type) → List (DataW H) → Bool := fun _ ds => decide (uptoBulkAll ds ≤ 1048576)
def OpenSpec.upto (s : _root_.Go.ChangeSpec) : _root_.Go.OpenSpec := { _root_.Go.OpenSpec.ofChange s with cond := some uptoSmall }

/-- 'gaugerlaw17.QuantTells', WHERE WHAT IT READS IS OF BULK AT MOST 1048576: true; the input reads as it did. -/
def quantTellsUptoRow : OpenClaim := { program := "ytiblpdjehknbcaagreat", sum := "38a27b76b4a2463c620e064f674575d4a6f6792bf9de4bfc02326858e8df38f9", func := "gauger/gaugerlaw17.QuantTells", spec := "quantTells", inPlace := ["math/bits.Sub64"], unfollowed := true, recurses := true, apart := false, narrowed := true }
def QuantTellsUptoSaid : Prop := quantTellsUptoRow.holds Tryz.pinned (OpenSpec.upto quantTellsSpec)

/-- 'gaugerlaw17.QuantLoaded', WHERE WHAT IT READS IS OF BULK AT MOST 1048576: true; the input reads as it did. -/
def quantLoadedUptoRow : OpenClaim := { program := "ytiblpdjehknbcaagreat", sum := "38a27b76b4a2463c620e064f674575d4a6f6792bf9de4bfc02326858e8df38f9", func := "gauger/gaugerlaw17.QuantLoaded", spec := "quantLoaded", inPlace := ["math/bits.Sub64"], unfollowed := true, recurses := true, apart := false, narrowed := true }
def QuantLoadedUptoSaid : Prop := quantLoadedUptoRow.holds Tryz.pinned (OpenSpec.upto quantLoadedSpec)

/-- 'gaugerlaw17.QuantBounds', WHERE WHAT IT READS IS OF BULK AT MOST 1048576: true; the input reads as it did. -/
def quantBoundsUptoRow : OpenClaim := { program := "ytiblpdjehknbcaagreat", sum := "38a27b76b4a2463c620e064f674575d4a6f6792bf9de4bfc02326858e8df38f9", func := "gauger/gaugerlaw17.QuantBounds", spec := "quantBounds", inPlace := ["math/bits.Sub64"], unfollowed := true, recurses := true, apart := false, narrowed := true }
def QuantBoundsUptoSaid : Prop := quantBoundsUptoRow.holds Tryz.pinned (OpenSpec.upto quantBoundsSpec)

/-- 'gaugerlaw17.QuantExact', WHERE WHAT IT READS IS OF BULK AT MOST 1048576: true; the input reads as it did. -/
def quantExactUptoRow : OpenClaim := { program := "ytiblpdjehknbcaagreat", sum := "38a27b76b4a2463c620e064f674575d4a6f6792bf9de4bfc02326858e8df38f9", func := "gauger/gaugerlaw17.QuantExact", spec := "quantExact", inPlace := ["math/bits.Sub64"], unfollowed := true, recurses := true, apart := false, narrowed := true }
def QuantExactUptoSaid : Prop := quantExactUptoRow.holds Tryz.pinned (OpenSpec.upto quantExactSpec)

end Rows
end Go.Proofs.YtiblpdjehknbcaaGreat
