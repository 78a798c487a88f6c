/-
  No cell of these rows narrows 'for every input' (looked for: loops, veiled, ifaces, maps, wideKeys, modest, calm, conditions, laid).
  DERIVED. THE GIVEN ROWS OF THIS SEAT. 7 by the template 'for every input the law returns true; each argument reads behind the call as it read before'; 0 by the template 'total and deterministic' (their statements: YtecnehaklnmnpaaTotals.lean).
  GIVEN WITH THE SEED: the statements are not yours to turn. If you find one false, say at which input.
  Laid BY PROGRAM, IN A SANDBOX (cutbox-rows.mjs): the forced cells as the released guide's own fill.sh prints them over the translation 0a1ad240c0099c9d… (all of the seat's roots in one cut). By AI agents, Wed Nov 11 2026. No macro, syntax, notation, axiom, sorry.
-/
import Derived.Test.YtecnehaklnmnpaaChecked
import GoSem.Claim
import GoSem.ClaimJoined
import GoSem.ClaimMapViews
import Derived.JoinedTies
import Derived.KernelRfl
namespace Go.Proofs.Ytecnehaklnmnpaa
/- THE CELL 'sum', in the pinned program and in every row, IS THE sha256 OF THE DUMP (.gsa) THAT YtecnehaklnmnpaaProg.lean LOADS. Nothing in Lean hashes anything: it is a label: what it is worth is what the hold of that sum in a sandbox is worth. -/
noncomputable def Try.pinned : Pinned := { name := "ytecnehaklnmnpaa", sum := "0a1ad240c0099c9d8fb0bd64dcafc48121468f8882480a4923bdd90e12db2bc5", checked := Try.checked }
namespace Rows
def none {H : Type} : Left H := { results := [], args := [] }

/-- 'gaugerlaw03.SeedsMix': WHATEVER THE INPUT: true; the input reads as it did. -/
def seedsMixSpec : ChangeSpec := { name := "seedsMix", fn := fun _ => fun
  | [d] => { results := [.lit (.bool true)], args := [d] }
  | _ => none }
def seedsMixRow : OpenClaim := { program := "ytecnehaklnmnpaa", sum := "0a1ad240c0099c9d8fb0bd64dcafc48121468f8882480a4923bdd90e12db2bc5", func := "gauger/gaugerlaw03.SeedsMix", spec := "seedsMix", unfollowed := true, recurses := true, apart := false }
def SeedsMixSaid : Prop := seedsMixRow.holds Try.pinned (OpenSpec.ofChange seedsMixSpec)

/-- ITS FALSE NEIGHBOUR: 'it returns false'. Refute it at one input. -/
def seedsMixWrong : ChangeSpec := { name := "seedsMix", fn := fun _ => fun
  | [d] => { results := [.lit (.bool false)], args := [d] }
  | _ => none }
def SeedsMixWrongFalsely : Prop := seedsMixRow.holds Try.pinned (OpenSpec.ofChange seedsMixWrong)

/-- 'gaugerlaw03.SeedsDraw': WHATEVER THE INPUT: true; the input reads as it did. -/
def seedsDrawSpec : ChangeSpec := { name := "seedsDraw", fn := fun _ => fun
  | [d1, d2] => { results := [.lit (.bool true)], args := [d1, d2] }
  | _ => none }
def seedsDrawRow : OpenClaim := { program := "ytecnehaklnmnpaa", sum := "0a1ad240c0099c9d8fb0bd64dcafc48121468f8882480a4923bdd90e12db2bc5", func := "gauger/gaugerlaw03.SeedsDraw", spec := "seedsDraw", unfollowed := true, recurses := true, apart := false }
def SeedsDrawSaid : Prop := seedsDrawRow.holds Try.pinned (OpenSpec.ofChange seedsDrawSpec)

/-- ITS FALSE NEIGHBOUR: 'it returns false'. Refute it at one input. -/
def seedsDrawWrong : ChangeSpec := { name := "seedsDraw", fn := fun _ => fun
  | [d1, d2] => { results := [.lit (.bool false)], args := [d1, d2] }
  | _ => none }
def SeedsDrawWrongFalsely : Prop := seedsDrawRow.holds Try.pinned (OpenSpec.ofChange seedsDrawWrong)

/-- 'gaugerlaw03.SeedsPair': WHATEVER THE INPUT: true; the input reads as it did. -/
def seedsPairSpec : ChangeSpec := { name := "seedsPair", fn := fun _ => fun
  | [d1, d2, d3] => { results := [.lit (.bool true)], args := [d1, d2, d3] }
  | _ => none }
def seedsPairRow : OpenClaim := { program := "ytecnehaklnmnpaa", sum := "0a1ad240c0099c9d8fb0bd64dcafc48121468f8882480a4923bdd90e12db2bc5", func := "gauger/gaugerlaw03.SeedsPair", spec := "seedsPair", unfollowed := true, recurses := true, apart := false }
def SeedsPairSaid : Prop := seedsPairRow.holds Try.pinned (OpenSpec.ofChange seedsPairSpec)

/-- ITS FALSE NEIGHBOUR: 'it returns false'. Refute it at one input. -/
def seedsPairWrong : ChangeSpec := { name := "seedsPair", fn := fun _ => fun
  | [d1, d2, d3] => { results := [.lit (.bool false)], args := [d1, d2, d3] }
  | _ => none }
def SeedsPairWrongFalsely : Prop := seedsPairRow.holds Try.pinned (OpenSpec.ofChange seedsPairWrong)

/-- 'gaugerlaw03.SeedsBack': WHATEVER THE INPUT: true; the input reads as it did. -/
def seedsBackSpec : ChangeSpec := { name := "seedsBack", fn := fun _ => fun
  | [d] => { results := [.lit (.bool true)], args := [d] }
  | _ => none }
def seedsBackRow : OpenClaim := { program := "ytecnehaklnmnpaa", sum := "0a1ad240c0099c9d8fb0bd64dcafc48121468f8882480a4923bdd90e12db2bc5", func := "gauger/gaugerlaw03.SeedsBack", spec := "seedsBack", unfollowed := true, recurses := true, apart := false }
def SeedsBackSaid : Prop := seedsBackRow.holds Try.pinned (OpenSpec.ofChange seedsBackSpec)

/-- ITS FALSE NEIGHBOUR: 'it returns false'. Refute it at one input. -/
def seedsBackWrong : ChangeSpec := { name := "seedsBack", fn := fun _ => fun
  | [d] => { results := [.lit (.bool false)], args := [d] }
  | _ => none }
def SeedsBackWrongFalsely : Prop := seedsBackRow.holds Try.pinned (OpenSpec.ofChange seedsBackWrong)

/-- 'gaugerlaw03.SeedsUnlike': WHATEVER THE INPUT: true; the input reads as it did. -/
def seedsUnlikeSpec : ChangeSpec := { name := "seedsUnlike", fn := fun _ => fun
  | [d1, d2, d3] => { results := [.lit (.bool true)], args := [d1, d2, d3] }
  | _ => none }
def seedsUnlikeRow : OpenClaim := { program := "ytecnehaklnmnpaa", sum := "0a1ad240c0099c9d8fb0bd64dcafc48121468f8882480a4923bdd90e12db2bc5", func := "gauger/gaugerlaw03.SeedsUnlike", spec := "seedsUnlike", unfollowed := true, recurses := true, apart := false }
def SeedsUnlikeSaid : Prop := seedsUnlikeRow.holds Try.pinned (OpenSpec.ofChange seedsUnlikeSpec)

/-- ITS FALSE NEIGHBOUR: 'it returns false'. Refute it at one input. -/
def seedsUnlikeWrong : ChangeSpec := { name := "seedsUnlike", fn := fun _ => fun
  | [d1, d2, d3] => { results := [.lit (.bool false)], args := [d1, d2, d3] }
  | _ => none }
def SeedsUnlikeWrongFalsely : Prop := seedsUnlikeRow.holds Try.pinned (OpenSpec.ofChange seedsUnlikeWrong)

/-- 'gaugerlaw03.SeedsRange': WHATEVER THE INPUT: true; the input reads as it did. -/
def seedsRangeSpec : ChangeSpec := { name := "seedsRange", fn := fun _ => fun
  | [d1, d2, d3] => { results := [.lit (.bool true)], args := [d1, d2, d3] }
  | _ => none }
def seedsRangeRow : OpenClaim := { program := "ytecnehaklnmnpaa", sum := "0a1ad240c0099c9d8fb0bd64dcafc48121468f8882480a4923bdd90e12db2bc5", func := "gauger/gaugerlaw03.SeedsRange", spec := "seedsRange", unfollowed := true, recurses := true, apart := false }
def SeedsRangeSaid : Prop := seedsRangeRow.holds Try.pinned (OpenSpec.ofChange seedsRangeSpec)

/-- ITS FALSE NEIGHBOUR: 'it returns false'. Refute it at one input. -/
def seedsRangeWrong : ChangeSpec := { name := "seedsRange", fn := fun _ => fun
  | [d1, d2, d3] => { results := [.lit (.bool false)], args := [d1, d2, d3] }
  | _ => none }
def SeedsRangeWrongFalsely : Prop := seedsRangeRow.holds Try.pinned (OpenSpec.ofChange seedsRangeWrong)

/-- 'gaugerlaw03.SeedsShift': WHATEVER THE INPUT: true; the input reads as it did. -/
def seedsShiftSpec : ChangeSpec := { name := "seedsShift", fn := fun _ => fun
  | [d1, d2, d3] => { results := [.lit (.bool true)], args := [d1, d2, d3] }
  | _ => none }
def seedsShiftRow : OpenClaim := { program := "ytecnehaklnmnpaa", sum := "0a1ad240c0099c9d8fb0bd64dcafc48121468f8882480a4923bdd90e12db2bc5", func := "gauger/gaugerlaw03.SeedsShift", spec := "seedsShift", unfollowed := true, recurses := true, apart := false }
def SeedsShiftSaid : Prop := seedsShiftRow.holds Try.pinned (OpenSpec.ofChange seedsShiftSpec)

/-- ITS FALSE NEIGHBOUR: 'it returns false'. Refute it at one input. -/
def seedsShiftWrong : ChangeSpec := { name := "seedsShift", fn := fun _ => fun
  | [d1, d2, d3] => { results := [.lit (.bool false)], args := [d1, d2, d3] }
  | _ => none }
def SeedsShiftWrongFalsely : Prop := seedsShiftRow.holds Try.pinned (OpenSpec.ofChange seedsShiftWrong)

/- THE SECOND FORM. 'bulk': how many values and letters a reading holds, each counted each time it is reached (what is shared counts as often as it is met; a slice's spare places count too). A statement '..UptoSaid' is the law's where the arguments, and the package variables that the reading takes, are together of bulk at most 1048576: NARROWER than '..Said'. Prove '..Said' where nothing that the law and all that it calls make is longer than what came in: it says more and counts as full. Else prove '..UptoSaid'. A law counts once. -/
mutual
def uptoBulk {H : Type} : DataW H → Nat
  | .lit (.string bytes) => bytes.length + 1
  | .lit _ => 1
  | .nil => 1
  | .ptr d => uptoBulk d + 1
  | .slice elems spare => uptoBulkAll elems + uptoBulkAll spare + 1
  | .agg parts => uptoBulkAll parts + 1
  | .iface _ d => uptoBulk d + 1
  | .map entries => uptoBulkEntries entries + 1
  | .held _ => 1
def uptoBulkAll {H : Type} : List (DataW H) → Nat
  | [] => 0
  | d :: r => uptoBulk d + uptoBulkAll r
def uptoBulkEntries {H : Type} : List (Lit × DataW H) → Nat
  | [] => 0
  | x :: r => uptoBulkEntry x + uptoBulkEntries r
def uptoBulkEntry {H : Type} : Lit × DataW H → Nat
  | (.string bytes, d) => bytes.length + uptoBulk d + 1
  | (_, d) => uptoBulk d + 1
 end
def uptoSmall : (H : Type) → List (DataW H) → Bool := fun _ ds => decide (uptoBulkAll ds ≤ 1048576)
def OpenSpec.upto (s : _root_.Go.ChangeSpec) : _root_.Go.OpenSpec := { _root_.Go.OpenSpec.ofChange s with cond := some uptoSmall }

/-- 'gaugerlaw03.SeedsMix', WHERE WHAT IT READS IS OF BULK AT MOST 1048576: true; the input reads as it did. -/
def seedsMixUptoRow : OpenClaim := { program := "ytecnehaklnmnpaa", sum := "0a1ad240c0099c9d8fb0bd64dcafc48121468f8882480a4923bdd90e12db2bc5", func := "gauger/gaugerlaw03.SeedsMix", spec := "seedsMix", unfollowed := true, recurses := true, apart := false, narrowed := true }
def SeedsMixUptoSaid : Prop := seedsMixUptoRow.holds Try.pinned (OpenSpec.upto seedsMixSpec)

/-- 'gaugerlaw03.SeedsDraw', WHERE WHAT IT READS IS OF BULK AT MOST 1048576: true; the input reads as it did. -/
def seedsDrawUptoRow : OpenClaim := { program := "ytecnehaklnmnpaa", sum := "0a1ad240c0099c9d8fb0bd64dcafc48121468f8882480a4923bdd90e12db2bc5", func := "gauger/gaugerlaw03.SeedsDraw", spec := "seedsDraw", unfollowed := true, recurses := true, apart := false, narrowed := true }
def SeedsDrawUptoSaid : Prop := seedsDrawUptoRow.holds Try.pinned (OpenSpec.upto seedsDrawSpec)

/-- 'gaugerlaw03.SeedsPair', WHERE WHAT IT READS IS OF BULK AT MOST 1048576: true; the input reads as it did. -/
def seedsPairUptoRow : OpenClaim := { program := "ytecnehaklnmnpaa", sum := "0a1ad240c0099c9d8fb0bd64dcafc48121468f8882480a4923bdd90e12db2bc5", func := "gauger/gaugerlaw03.SeedsPair", spec := "seedsPair", unfollowed := true, recurses := true, apart := false, narrowed := true }
def SeedsPairUptoSaid : Prop := seedsPairUptoRow.holds Try.pinned (OpenSpec.upto seedsPairSpec)

/-- 'gaugerlaw03.SeedsBack', WHERE WHAT IT READS IS OF BULK AT MOST 1048576: true; the input reads as it did. -/
def seedsBackUptoRow : OpenClaim := { program := "ytecnehaklnmnpaa", sum := "0a1ad240c0099c9d8fb0bd64dcafc48121468f8882480a4923bdd90e12db2bc5", func := "gauger/gaugerlaw03.SeedsBack", spec := "seedsBack", unfollowed := true, recurses := true, apart := false, narrowed := true }
def SeedsBackUptoSaid : Prop := seedsBackUptoRow.holds Try.pinned (OpenSpec.upto seedsBackSpec)

/-- 'gaugerlaw03.SeedsUnlike', WHERE WHAT IT READS IS OF BULK AT MOST 1048576: true; the input reads as it did. -/
def seedsUnlikeUptoRow : OpenClaim := { program := "ytecnehaklnmnpaa", sum := "0a1ad240c0099c9d8fb0bd64dcafc48121468f8882480a4923bdd90e12db2bc5", func := "gauger/gaugerlaw03.SeedsUnlike", spec := "seedsUnlike", unfollowed := true, recurses := true, apart := false, narrowed := true }
def SeedsUnlikeUptoSaid : Prop := seedsUnlikeUptoRow.holds Try.pinned (OpenSpec.upto seedsUnlikeSpec)

/-- 'gaugerlaw03.SeedsRange', WHERE WHAT IT READS IS OF BULK AT MOST 1048576: true; the input reads as it did. -/
def seedsRangeUptoRow : OpenClaim := { program := "ytecnehaklnmnpaa", sum := "0a1ad240c0099c9d8fb0bd64dcafc48121468f8882480a4923bdd90e12db2bc5", func := "gauger/gaugerlaw03.SeedsRange", spec := "seedsRange", unfollowed := true, recurses := true, apart := false, narrowed := true }
def SeedsRangeUptoSaid : Prop := seedsRangeUptoRow.holds Try.pinned (OpenSpec.upto seedsRangeSpec)

/-- 'gaugerlaw03.SeedsShift', WHERE WHAT IT READS IS OF BULK AT MOST 1048576: true; the input reads as it did. -/
def seedsShiftUptoRow : OpenClaim := { program := "ytecnehaklnmnpaa", sum := "0a1ad240c0099c9d8fb0bd64dcafc48121468f8882480a4923bdd90e12db2bc5", func := "gauger/gaugerlaw03.SeedsShift", spec := "seedsShift", unfollowed := true, recurses := true, apart := false, narrowed := true }
def SeedsShiftUptoSaid : Prop := seedsShiftUptoRow.holds Try.pinned (OpenSpec.upto seedsShiftSpec)

end Rows
end Go.Proofs.Ytecnehaklnmnpaa
