/-
  No cell of these rows narrows 'for every input' (looked for: loops, veiled, ifaces, maps, wideKeys, modest, calm, conditions, laid).
  DERIVED. THE GIVEN ROWS OF THIS SEAT. 8 by the template 'for every input the law returns true; each argument reads behind the call as it read before'; 0 by the template 'total and deterministic' (their statements: YtkflggojiiebeaaGreatTotals.lean).
  GIVEN WITH THE SEED: the statements are not yours to turn. If you find one false, say at which input.
  Laid BY PROGRAM, IN A SANDBOX (cutbox-rows.mjs): the forced cells as the released guide's own fill.sh prints them over the translation a3ef4b7a2aaeb4c2… (all of the seat's roots in one cut). By AI agents, Wed Nov 11 2026. No macro, syntax, notation, axiom, sorry.
-/
import Derived.Test.YtkflggojiiebeaaGreatChecked
import GoSem.Claim
import GoSem.ClaimJoined
import GoSem.ClaimMapViews
import Derived.JoinedTies
import Derived.KernelRfl
namespace Go.Proofs.YtkflggojiiebeaaGreat
/- THE CELL 'sum', in the pinned program and in every row, IS THE sha256 OF THE DUMP (.gsa) THAT YtkflggojiiebeaaGreatProg.lean LOADS. Nothing in Lean hashes anything: it is a label: what it is worth is what the hold of that sum in a sandbox is worth. -/
noncomputable def Tryz.pinned : Pinned := { name := "ytkflggojiiebeaagreat", sum := "a3ef4b7a2aaeb4c2da5009f0528a4810d37d088c518cc324295ab5b904656317", checked := Tryz.checked }
namespace Rows
def none {H : Type} : Left H := { results := [], args := [] }

/-- 'gaugerlaw18.HeavyTells': WHATEVER THE INPUT: true; the input reads as it did. -/
def heavyTellsSpec : ChangeSpec := { name := "heavyTells", fn := fun _ => fun
  | [d1, d2, d3] => { results := [.lit (.bool true)], args := [d1, d2, d3] }
  | _ => none }
def heavyTellsRow : OpenClaim := { program := "ytkflggojiiebeaagreat", sum := "a3ef4b7a2aaeb4c2da5009f0528a4810d37d088c518cc324295ab5b904656317", func := "gauger/gaugerlaw18.HeavyTells", spec := "heavyTells", inPlace := ["math/bits.Add64", "math/bits.Sub64"], unfollowed := true, recurses := true, plainKeys := false, apart := false }
def HeavyTellsSaid : Prop := heavyTellsRow.holds Tryz.pinned (OpenSpec.ofChange heavyTellsSpec)

/-- ITS FALSE NEIGHBOUR: 'it returns false'. Refute it at one input. -/
def heavyTellsWrong : ChangeSpec := { name := "heavyTells", fn := fun _ => fun
  | [d1, d2, d3] => { results := [.lit (.bool false)], args := [d1, d2, d3] }
  | _ => none }
def HeavyTellsWrongFalsely : Prop := heavyTellsRow.holds Tryz.pinned (OpenSpec.ofChange heavyTellsWrong)

/-- 'gaugerlaw18.HeavyLoaded': WHATEVER THE INPUT: true; the input reads as it did. -/
def heavyLoadedSpec : ChangeSpec := { name := "heavyLoaded", fn := fun _ => fun
  | [d1, d2, d3] => { results := [.lit (.bool true)], args := [d1, d2, d3] }
  | _ => none }
def heavyLoadedRow : OpenClaim := { program := "ytkflggojiiebeaagreat", sum := "a3ef4b7a2aaeb4c2da5009f0528a4810d37d088c518cc324295ab5b904656317", func := "gauger/gaugerlaw18.HeavyLoaded", spec := "heavyLoaded", inPlace := ["math/bits.Add64", "math/bits.Sub64"], unfollowed := true, recurses := true, plainKeys := false, apart := false }
def HeavyLoadedSaid : Prop := heavyLoadedRow.holds Tryz.pinned (OpenSpec.ofChange heavyLoadedSpec)

/-- ITS FALSE NEIGHBOUR: 'it returns false'. Refute it at one input. -/
def heavyLoadedWrong : ChangeSpec := { name := "heavyLoaded", fn := fun _ => fun
  | [d1, d2, d3] => { results := [.lit (.bool false)], args := [d1, d2, d3] }
  | _ => none }
def HeavyLoadedWrongFalsely : Prop := heavyLoadedRow.holds Tryz.pinned (OpenSpec.ofChange heavyLoadedWrong)

/-- 'gaugerlaw19.SummaryRanks': WHATEVER THE INPUT: true; the input reads as it did. -/
def summaryRanksSpec : ChangeSpec := { name := "summaryRanks", fn := fun _ => fun
  | [d1, d2] => { results := [.lit (.bool true)], args := [d1, d2] }
  | _ => none }
def summaryRanksRow : OpenClaim := { program := "ytkflggojiiebeaagreat", sum := "a3ef4b7a2aaeb4c2da5009f0528a4810d37d088c518cc324295ab5b904656317", func := "gauger/gaugerlaw19.SummaryRanks", spec := "summaryRanks", inPlace := ["math/bits.Sub64", "math/bits.Add64"], unfollowed := true, recurses := true, plainKeys := false, apart := false }
def SummaryRanksSaid : Prop := summaryRanksRow.holds Tryz.pinned (OpenSpec.ofChange summaryRanksSpec)

/-- ITS FALSE NEIGHBOUR: 'it returns false'. Refute it at one input. -/
def summaryRanksWrong : ChangeSpec := { name := "summaryRanks", fn := fun _ => fun
  | [d1, d2] => { results := [.lit (.bool false)], args := [d1, d2] }
  | _ => none }
def SummaryRanksWrongFalsely : Prop := summaryRanksRow.holds Tryz.pinned (OpenSpec.ofChange summaryRanksWrong)

/-- 'gaugerlaw19.SummaryHistogram': WHATEVER THE INPUT: true; the input reads as it did. -/
def summaryHistogramSpec : ChangeSpec := { name := "summaryHistogram", fn := fun _ => fun
  | [d1, d2] => { results := [.lit (.bool true)], args := [d1, d2] }
  | _ => none }
def summaryHistogramRow : OpenClaim := { program := "ytkflggojiiebeaagreat", sum := "a3ef4b7a2aaeb4c2da5009f0528a4810d37d088c518cc324295ab5b904656317", func := "gauger/gaugerlaw19.SummaryHistogram", spec := "summaryHistogram", inPlace := ["math/bits.Sub64", "math/bits.Add64"], unfollowed := true, recurses := true, plainKeys := false, apart := false }
def SummaryHistogramSaid : Prop := summaryHistogramRow.holds Tryz.pinned (OpenSpec.ofChange summaryHistogramSpec)

/-- ITS FALSE NEIGHBOUR: 'it returns false'. Refute it at one input. -/
def summaryHistogramWrong : ChangeSpec := { name := "summaryHistogram", fn := fun _ => fun
  | [d1, d2] => { results := [.lit (.bool false)], args := [d1, d2] }
  | _ => none }
def SummaryHistogramWrongFalsely : Prop := summaryHistogramRow.holds Tryz.pinned (OpenSpec.ofChange summaryHistogramWrong)

/-- 'gaugerlaw19.SummaryTop': WHATEVER THE INPUT: true; the input reads as it did. -/
def summaryTopSpec : ChangeSpec := { name := "summaryTop", fn := fun _ => fun
  | [d] => { results := [.lit (.bool true)], args := [d] }
  | _ => none }
def summaryTopRow : OpenClaim := { program := "ytkflggojiiebeaagreat", sum := "a3ef4b7a2aaeb4c2da5009f0528a4810d37d088c518cc324295ab5b904656317", func := "gauger/gaugerlaw19.SummaryTop", spec := "summaryTop", inPlace := ["math/bits.Sub64", "math/bits.Add64"], unfollowed := true, recurses := true, plainKeys := false, apart := false }
def SummaryTopSaid : Prop := summaryTopRow.holds Tryz.pinned (OpenSpec.ofChange summaryTopSpec)

/-- ITS FALSE NEIGHBOUR: 'it returns false'. Refute it at one input. -/
def summaryTopWrong : ChangeSpec := { name := "summaryTop", fn := fun _ => fun
  | [d] => { results := [.lit (.bool false)], args := [d] }
  | _ => none }
def SummaryTopWrongFalsely : Prop := summaryTopRow.holds Tryz.pinned (OpenSpec.ofChange summaryTopWrong)

/-- 'gaugerlaw19.SummaryEach': WHATEVER THE INPUT: true; the input reads as it did. -/
def summaryEachSpec : ChangeSpec := { name := "summaryEach", fn := fun _ => fun
  | [d1, d2] => { results := [.lit (.bool true)], args := [d1, d2] }
  | _ => none }
def summaryEachRow : OpenClaim := { program := "ytkflggojiiebeaagreat", sum := "a3ef4b7a2aaeb4c2da5009f0528a4810d37d088c518cc324295ab5b904656317", func := "gauger/gaugerlaw19.SummaryEach", spec := "summaryEach", inPlace := ["math/bits.Sub64", "math/bits.Add64"], unfollowed := true, recurses := true, plainKeys := false, apart := false }
def SummaryEachSaid : Prop := summaryEachRow.holds Tryz.pinned (OpenSpec.ofChange summaryEachSpec)

/-- ITS FALSE NEIGHBOUR: 'it returns false'. Refute it at one input. -/
def summaryEachWrong : ChangeSpec := { name := "summaryEach", fn := fun _ => fun
  | [d1, d2] => { results := [.lit (.bool false)], args := [d1, d2] }
  | _ => none }
def SummaryEachWrongFalsely : Prop := summaryEachRow.holds Tryz.pinned (OpenSpec.ofChange summaryEachWrong)

/-- 'gaugerlaw19.SummaryExact': WHATEVER THE INPUT: true; the input reads as it did. -/
def summaryExactSpec : ChangeSpec := { name := "summaryExact", fn := fun _ => fun
  | [d1, d2] => { results := [.lit (.bool true)], args := [d1, d2] }
  | _ => none }
def summaryExactRow : OpenClaim := { program := "ytkflggojiiebeaagreat", sum := "a3ef4b7a2aaeb4c2da5009f0528a4810d37d088c518cc324295ab5b904656317", func := "gauger/gaugerlaw19.SummaryExact", spec := "summaryExact", inPlace := ["math/bits.Sub64", "math/bits.Add64"], unfollowed := true, recurses := true, plainKeys := false, apart := false }
def SummaryExactSaid : Prop := summaryExactRow.holds Tryz.pinned (OpenSpec.ofChange summaryExactSpec)

/-- ITS FALSE NEIGHBOUR: 'it returns false'. Refute it at one input. -/
def summaryExactWrong : ChangeSpec := { name := "summaryExact", fn := fun _ => fun
  | [d1, d2] => { results := [.lit (.bool false)], args := [d1, d2] }
  | _ => none }
def SummaryExactWrongFalsely : Prop := summaryExactRow.holds Tryz.pinned (OpenSpec.ofChange summaryExactWrong)

/-- 'gaugerlaw19.SummaryFirst': WHATEVER THE INPUT: true; the input reads as it did. -/
def summaryFirstSpec : ChangeSpec := { name := "summaryFirst", fn := fun _ => fun
  | [d1, d2, d3] => { results := [.lit (.bool true)], args := [d1, d2, d3] }
  | _ => none }
def summaryFirstRow : OpenClaim := { program := "ytkflggojiiebeaagreat", sum := "a3ef4b7a2aaeb4c2da5009f0528a4810d37d088c518cc324295ab5b904656317", func := "gauger/gaugerlaw19.SummaryFirst", spec := "summaryFirst", inPlace := ["math/bits.Sub64", "math/bits.Add64"], unfollowed := true, recurses := true, plainKeys := false, apart := false }
def SummaryFirstSaid : Prop := summaryFirstRow.holds Tryz.pinned (OpenSpec.ofChange summaryFirstSpec)

/-- ITS FALSE NEIGHBOUR: 'it returns false'. Refute it at one input. -/
def summaryFirstWrong : ChangeSpec := { name := "summaryFirst", fn := fun _ => fun
  | [d1, d2, d3] => { results := [.lit (.bool false)], args := [d1, d2, d3] }
  | _ => none }
def SummaryFirstWrongFalsely : Prop := summaryFirstRow.holds Tryz.pinned (OpenSpec.ofChange summaryFirstWrong)

/- THE SECOND FORM. 'bulk': how many values and letters a reading holds, each counted each time it is reached (what is shared counts as often as it is met; a slice's spare places count too). A statement '..UptoSaid' is the law's where the arguments, and the package variables that the reading takes, are together of bulk at most 1048576: NARROWER than '..Said'. Prove '..Said' where nothing that the law and all that it calls make is longer than what came in: it says more and counts as full. Else prove '..UptoSaid'. A law counts once. -/
mutual
def uptoBulk {H : Type} : DataW H → Nat
  | .lit (.string bytes) => bytes.length + 1
  | .lit _ => 1
  | .nil => 1
  | .ptr d => uptoBulk d + 1
  | .slice elems spare => uptoBulkAll elems + uptoBulkAll spare + 1
  | .agg parts => uptoBulkAll parts + 1
  | .iface _ d => uptoBulk d + 1
  | .map entries => uptoBulkEntries entries + 1
  | .held _ => 1
def uptoBulkAll {H : Type} : List (DataW H) → Nat
  | [] => 0
  | d :: r => uptoBulk d + uptoBulkAll r
def uptoBulkEntries {H : Type} : List (Lit × DataW H) → Nat
  | [] => 0
  | x :: r => uptoBulkEntry x + uptoBulkEntries r
def uptoBulkEntry {H : Type} : Lit × DataW H → Nat
  | (.string bytes, d) => bytes.length + uptoBulk d + 1
  | (_, d) => uptoBulk d + 1
 end
def uptoSmall : (H : Type) → List (DataW H) → Bool := fun _ ds => decide (uptoBulkAll ds ≤ 1048576)
def OpenSpec.upto (s : _root_.Go.ChangeSpec) : _root_.Go.OpenSpec := { _root_.Go.OpenSpec.ofChange s with cond := some uptoSmall }

/-- 'gaugerlaw18.HeavyTells', WHERE WHAT IT READS IS OF BULK AT MOST 1048576: true; the input reads as it did. -/
def heavyTellsUptoRow : OpenClaim := { program := "ytkflggojiiebeaagreat", sum := "a3ef4b7a2aaeb4c2da5009f0528a4810d37d088c518cc324295ab5b904656317", func := "gauger/gaugerlaw18.HeavyTells", spec := "heavyTells", inPlace := ["math/bits.Add64", "math/bits.Sub64"], unfollowed := true, recurses := true, plainKeys := false, apart := false, narrowed := true }
def HeavyTellsUptoSaid : Prop := heavyTellsUptoRow.holds Tryz.pinned (OpenSpec.upto heavyTellsSpec)

/-- 'gaugerlaw18.HeavyLoaded', WHERE WHAT IT READS IS OF BULK AT MOST 1048576: true; the input reads as it did. -/
def heavyLoadedUptoRow : OpenClaim := { program := "ytkflggojiiebeaagreat", sum := "a3ef4b7a2aaeb4c2da5009f0528a4810d37d088c518cc324295ab5b904656317", func := "gauger/gaugerlaw18.HeavyLoaded", spec := "heavyLoaded", inPlace := ["math/bits.Add64", "math/bits.Sub64"], unfollowed := true, recurses := true, plainKeys := false, apart := false, narrowed := true }
def HeavyLoadedUptoSaid : Prop := heavyLoadedUptoRow.holds Tryz.pinned (OpenSpec.upto heavyLoadedSpec)

/-- 'gaugerlaw19.SummaryRanks', WHERE WHAT IT READS IS OF BULK AT MOST 1048576: true; the input reads as it did. -/
def summaryRanksUptoRow : OpenClaim := { program := "ytkflggojiiebeaagreat", sum := "a3ef4b7a2aaeb4c2da5009f0528a4810d37d088c518cc324295ab5b904656317", func := "gauger/gaugerlaw19.SummaryRanks", spec := "summaryRanks", inPlace := ["math/bits.Sub64", "math/bits.Add64"], unfollowed := true, recurses := true, plainKeys := false, apart := false, narrowed := true }
def SummaryRanksUptoSaid : Prop := summaryRanksUptoRow.holds Tryz.pinned (OpenSpec.upto summaryRanksSpec)

/-- 'gaugerlaw19.SummaryHistogram', WHERE WHAT IT READS IS OF BULK AT MOST 1048576: true; the input reads as it did. -/
def summaryHistogramUptoRow : OpenClaim := { program := "ytkflggojiiebeaagreat", sum := "a3ef4b7a2aaeb4c2da5009f0528a4810d37d088c518cc324295ab5b904656317", func := "gauger/gaugerlaw19.SummaryHistogram", spec := "summaryHistogram", inPlace := ["math/bits.Sub64", "math/bits.Add64"], unfollowed := true, recurses := true, plainKeys := false, apart := false, narrowed := true }
def SummaryHistogramUptoSaid : Prop := summaryHistogramUptoRow.holds Tryz.pinned (OpenSpec.upto summaryHistogramSpec)

/-- 'gaugerlaw19.SummaryTop', WHERE WHAT IT READS IS OF BULK AT MOST 1048576: true; the input reads as it did. -/
def summaryTopUptoRow : OpenClaim := { program := "ytkflggojiiebeaagreat", sum := "a3ef4b7a2aaeb4c2da5009f0528a4810d37d088c518cc324295ab5b904656317", func := "gauger/gaugerlaw19.SummaryTop", spec := "summaryTop", inPlace := ["math/bits.Sub64", "math/bits.Add64"], unfollowed := true, recurses := true, plainKeys := false, apart := false, narrowed := true }
def SummaryTopUptoSaid : Prop := summaryTopUptoRow.holds Tryz.pinned (OpenSpec.upto summaryTopSpec)

/-- 'gaugerlaw19.SummaryEach', WHERE WHAT IT READS IS OF BULK AT MOST 1048576: true; the input reads as it did. -/
def summaryEachUptoRow : OpenClaim := { program := "ytkflggojiiebeaagreat", sum := "a3ef4b7a2aaeb4c2da5009f0528a4810d37d088c518cc324295ab5b904656317", func := "gauger/gaugerlaw19.SummaryEach", spec := "summaryEach", inPlace := ["math/bits.Sub64", "math/bits.Add64"], unfollowed := true, recurses := true, plainKeys := false, apart := false, narrowed := true }
def SummaryEachUptoSaid : Prop := summaryEachUptoRow.holds Tryz.pinned (OpenSpec.upto summaryEachSpec)

/-- 'gaugerlaw19.SummaryExact', WHERE WHAT IT READS IS OF BULK AT MOST 1048576: true; the input reads as it did. -/
def summaryExactUptoRow : OpenClaim := { program := "ytkflggojiiebeaagreat", sum := "a3ef4b7a2aaeb4c2da5009f0528a4810d37d088c518cc324295ab5b904656317", func := "gauger/gaugerlaw19.SummaryExact", spec := "summaryExact", inPlace := ["math/bits.Sub64", "math/bits.Add64"], unfollowed := true, recurses := true, plainKeys := false, apart := false, narrowed := true }
def SummaryExactUptoSaid : Prop := summaryExactUptoRow.holds Tryz.pinned (OpenSpec.upto summaryExactSpec)

/-- 'gaugerlaw19.SummaryFirst', WHERE WHAT IT READS IS OF BULK AT MOST 1048576: true; the input reads as it did. -/
def summaryFirstUptoRow : OpenClaim := { program := "ytkflggojiiebeaagreat", sum := "a3ef4b7a2aaeb4c2da5009f0528a4810d37d088c518cc324295ab5b904656317", func := "gauger/gaugerlaw19.SummaryFirst", spec := "summaryFirst", inPlace := ["math/bits.Sub64", "math/bits.Add64"], unfollowed := true, recurses := true, plainKeys := false, apart := false, narrowed := true }
def SummaryFirstUptoSaid : Prop := summaryFirstUptoRow.holds Tryz.pinned (OpenSpec.upto summaryFirstSpec)

end Rows
end Go.Proofs.YtkflggojiiebeaaGreat
