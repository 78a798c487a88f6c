/-
  No cell of these rows narrows 'for every input' (looked for: loops, veiled, ifaces, maps, wideKeys, modest, calm, conditions, laid).
  DERIVED. THE GIVEN ROWS OF THIS SEAT. 4 by the template 'for every input the law returns true; each argument reads behind the call as it read before'; 0 by the template 'total and deterministic' (their statements: YtkannodfamnmcaaGreatTotals.lean).
  GIVEN WITH THE SEED: the statements are not yours to turn. If you find one false, say at which input.
  Laid BY PROGRAM, IN A SANDBOX (cutbox-rows.mjs): the forced cells as the released guide's own fill.sh prints them over the translation 276eb7d672d36262… (all of the seat's roots in one cut). By AI agents, Wed Nov 11 2026. No macro, syntax, notation, axiom, sorry.
-/
import Derived.Test.YtkannodfamnmcaaGreatChecked
import GoSem.Claim
import GoSem.ClaimJoined
import GoSem.ClaimMapViews
import Derived.JoinedTies
import Derived.KernelRfl
namespace Go.Proofs.YtkannodfamnmcaaGreat
/- THE CELL 'sum', in the pinned program and in every row, IS THE sha256 OF THE DUMP (.gsa) THAT YtkannodfamnmcaaGreatProg.lean LOADS. Nothing in Lean hashes anything: it is a label: what it is worth is what the hold of that sum in a sandbox is worth. -/
noncomputable def Tryz.pinned : Pinned := { name := "ytkannodfamnmcaagreat", sum := "276eb7d672d36262635e2ff34b33ea4460487136e2a5f6f88093ceb1dcc73bd8", checked := Tryz.checked }
namespace Rows
def none {H : Type} : Left H := { results := [], args := [] }

/-- 'gaugerlaw13.LevelPlays': WHATEVER THE INPUT: true; the input reads as it did. -/
def levelPlaysSpec : ChangeSpec := { name := "levelPlays", fn := fun _ => fun
  | [d1, d2, d3] => { results := [.lit (.bool true)], args := [d1, d2, d3] }
  | _ => none }
def levelPlaysRow : OpenClaim := { program := "ytkannodfamnmcaagreat", sum := "276eb7d672d36262635e2ff34b33ea4460487136e2a5f6f88093ceb1dcc73bd8", func := "gauger/gaugerlaw13.LevelPlays", spec := "levelPlays", inPlace := ["math/bits.Add64", "math/bits.Sub64"], unfollowed := true, recurses := true, apart := false }
def LevelPlaysSaid : Prop := levelPlaysRow.holds Tryz.pinned (OpenSpec.ofChange levelPlaysSpec)

/-- ITS FALSE NEIGHBOUR: 'it returns false'. Refute it at one input. -/
def levelPlaysWrong : ChangeSpec := { name := "levelPlays", fn := fun _ => fun
  | [d1, d2, d3] => { results := [.lit (.bool false)], args := [d1, d2, d3] }
  | _ => none }
def LevelPlaysWrongFalsely : Prop := levelPlaysRow.holds Tryz.pinned (OpenSpec.ofChange levelPlaysWrong)

/-- 'gaugerlaw13.LevelUnlike': WHATEVER THE INPUT: true; the input reads as it did. -/
def levelUnlikeSpec : ChangeSpec := { name := "levelUnlike", fn := fun _ => fun
  | [d1, d2, d3] => { results := [.lit (.bool true)], args := [d1, d2, d3] }
  | _ => none }
def levelUnlikeRow : OpenClaim := { program := "ytkannodfamnmcaagreat", sum := "276eb7d672d36262635e2ff34b33ea4460487136e2a5f6f88093ceb1dcc73bd8", func := "gauger/gaugerlaw13.LevelUnlike", spec := "levelUnlike", inPlace := ["math/bits.Add64", "math/bits.Sub64"], unfollowed := true, recurses := true, apart := false }
def LevelUnlikeSaid : Prop := levelUnlikeRow.holds Tryz.pinned (OpenSpec.ofChange levelUnlikeSpec)

/-- ITS FALSE NEIGHBOUR: 'it returns false'. Refute it at one input. -/
def levelUnlikeWrong : ChangeSpec := { name := "levelUnlike", fn := fun _ => fun
  | [d1, d2, d3] => { results := [.lit (.bool false)], args := [d1, d2, d3] }
  | _ => none }
def LevelUnlikeWrongFalsely : Prop := levelUnlikeRow.holds Tryz.pinned (OpenSpec.ofChange levelUnlikeWrong)

/-- 'gaugerlaw13.LevelApart': WHATEVER THE INPUT: true; the input reads as it did. -/
def levelApartSpec : ChangeSpec := { name := "levelApart", fn := fun _ => fun
  | [d1, d2] => { results := [.lit (.bool true)], args := [d1, d2] }
  | _ => none }
def levelApartRow : OpenClaim := { program := "ytkannodfamnmcaagreat", sum := "276eb7d672d36262635e2ff34b33ea4460487136e2a5f6f88093ceb1dcc73bd8", func := "gauger/gaugerlaw13.LevelApart", spec := "levelApart", inPlace := ["math/bits.Add64"], unfollowed := true, recurses := true, apart := false }
def LevelApartSaid : Prop := levelApartRow.holds Tryz.pinned (OpenSpec.ofChange levelApartSpec)

/-- ITS FALSE NEIGHBOUR: 'it returns false'. Refute it at one input. -/
def levelApartWrong : ChangeSpec := { name := "levelApart", fn := fun _ => fun
  | [d1, d2] => { results := [.lit (.bool false)], args := [d1, d2] }
  | _ => none }
def LevelApartWrongFalsely : Prop := levelApartRow.holds Tryz.pinned (OpenSpec.ofChange levelApartWrong)

/-- 'gaugerlaw13.LevelJoins': WHATEVER THE INPUT: true; the input reads as it did. -/
def levelJoinsSpec : ChangeSpec := { name := "levelJoins", fn := fun _ => fun
  | [d1, d2] => { results := [.lit (.bool true)], args := [d1, d2] }
  | _ => none }
def levelJoinsRow : OpenClaim := { program := "ytkannodfamnmcaagreat", sum := "276eb7d672d36262635e2ff34b33ea4460487136e2a5f6f88093ceb1dcc73bd8", func := "gauger/gaugerlaw13.LevelJoins", spec := "levelJoins", inPlace := ["math/bits.Add64", "math/bits.Sub64"], unfollowed := true, recurses := true, apart := false }
def LevelJoinsSaid : Prop := levelJoinsRow.holds Tryz.pinned (OpenSpec.ofChange levelJoinsSpec)

/-- ITS FALSE NEIGHBOUR: 'it returns false'. Refute it at one input. -/
def levelJoinsWrong : ChangeSpec := { name := "levelJoins", fn := fun _ => fun
  | [d1, d2] => { results := [.lit (.bool false)], args := [d1, d2] }
  | _ => none }
def LevelJoinsWrongFalsely : Prop := levelJoinsRow.holds Tryz.pinned (OpenSpec.ofChange levelJoinsWrong)

/- THE SECOND FORM. 'bulk': how many values and letters a reading holds, each counted each time it is reached (what is shared counts as often as it is met; a slice's spare places count too). A statement '..UptoSaid' is the law's where the arguments, and the package variables that the reading takes, are together of bulk at most 1048576: NARROWER than '..Said'. Prove '..Said' where nothing that the law and all that it calls make is longer than what came in: it says more and counts as full. Else prove '..UptoSaid'. A law counts once. -/
mutual
def uptoBulk {H : Type} : DataW H → Nat
  | .lit (.string bytes) => bytes.length + 1
  | .lit _ => 1
  | .nil => 1
  | .ptr d => uptoBulk d + 1
  | .slice elems spare => uptoBulkAll elems + uptoBulkAll spare + 1
  | .agg parts => uptoBulkAll parts + 1
  | .iface _ d => uptoBulk d + 1
  | .map entries => uptoBulkEntries entries + 1
  | .held _ => 1
def uptoBulkAll {H : Type} : List (DataW H) → Nat
  | [] => 0
  | d :: r => uptoBulk d + uptoBulkAll r
def uptoBulkEntries {H : Type} : List (Lit × DataW H) → Nat
  | [] => 0
  | x :: r => uptoBulkEntry x + uptoBulkEntries r
def uptoBulkEntry {H : Type} : Lit × DataW H → Nat
  | (.string bytes, d) => bytes.length + uptoBulk d + 1
  | (_, d) => uptoBulk d + 1
 end
def uptoSmall : (H : Type) → List (DataW H) → Bool := fun _ ds => decide (uptoBulkAll ds ≤ 1048576)
def OpenSpec.upto (s : _root_.Go.ChangeSpec) : _root_.Go.OpenSpec := { _root_.Go.OpenSpec.ofChange s with cond := some uptoSmall }

/-- 'gaugerlaw13.LevelPlays', WHERE WHAT IT READS IS OF BULK AT MOST 1048576: true; the input reads as it did. -/
def levelPlaysUptoRow : OpenClaim := { program := "ytkannodfamnmcaagreat", sum := "276eb7d672d36262635e2ff34b33ea4460487136e2a5f6f88093ceb1dcc73bd8", func := "gauger/gaugerlaw13.LevelPlays", spec := "levelPlays", inPlace := ["math/bits.Add64", "math/bits.Sub64"], unfollowed := true, recurses := true, apart := false, narrowed := true }
def LevelPlaysUptoSaid : Prop := levelPlaysUptoRow.holds Tryz.pinned (OpenSpec.upto levelPlaysSpec)

/-- 'gaugerlaw13.LevelUnlike', WHERE WHAT IT READS IS OF BULK AT MOST 1048576: true; the input reads as it did. -/
def levelUnlikeUptoRow : OpenClaim := { program := "ytkannodfamnmcaagreat", sum := "276eb7d672d36262635e2ff34b33ea4460487136e2a5f6f88093ceb1dcc73bd8", func := "gauger/gaugerlaw13.LevelUnlike", spec := "levelUnlike", inPlace := ["math/bits.Add64", "math/bits.Sub64"], unfollowed := true, recurses := true, apart := false, narrowed := true }
def LevelUnlikeUptoSaid : Prop := levelUnlikeUptoRow.holds Tryz.pinned (OpenSpec.upto levelUnlikeSpec)

/-- 'gaugerlaw13.LevelApart', WHERE WHAT IT READS IS OF BULK AT MOST 1048576: true; the input reads as it did. -/
def levelApartUptoRow : OpenClaim := { program := "ytkannodfamnmcaagreat", sum := "276eb7d672d36262635e2ff34b33ea4460487136e2a5f6f88093ceb1dcc73bd8", func := "gauger/gaugerlaw13.LevelApart", spec := "levelApart", inPlace := ["math/bits.Add64"], unfollowed := true, recurses := true, apart := false, narrowed := true }
def LevelApartUptoSaid : Prop := levelApartUptoRow.holds Tryz.pinned (OpenSpec.upto levelApartSpec)

/-- 'gaugerlaw13.LevelJoins', WHERE WHAT IT READS IS OF BULK AT MOST 1048576: true; the input reads as it did. -/
def levelJoinsUptoRow : OpenClaim := { program := "ytkannodfamnmcaagreat", sum := "276eb7d672d36262635e2ff34b33ea4460487136e2a5f6f88093ceb1dcc73bd8", func := "gauger/gaugerlaw13.LevelJoins", spec := "levelJoins", inPlace := ["math/bits.Add64", "math/bits.Sub64"], unfollowed := true, recurses := true, apart := false, narrowed := true }
def LevelJoinsUptoSaid : Prop := levelJoinsUptoRow.holds Tryz.pinned (OpenSpec.upto levelJoinsSpec)

end Rows
end Go.Proofs.YtkannodfamnmcaaGreat
