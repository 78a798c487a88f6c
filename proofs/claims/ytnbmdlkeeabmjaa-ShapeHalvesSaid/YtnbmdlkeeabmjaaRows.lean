/-
  No cell of these rows narrows 'for every input' (looked for: loops, veiled, ifaces, maps, wideKeys, modest, calm, conditions, laid).
  DERIVED. THE GIVEN ROWS OF THIS SEAT. 6 by the template 'for every input the law returns true; each argument reads behind the call as it read before'; 0 by the template 'total and deterministic' (their statements: YtnbmdlkeeabmjaaTotals.lean).
  GIVEN WITH THE SEED: the statements are not yours to turn. If you find one false, say at which input.
  Laid BY PROGRAM, IN A SANDBOX (cutbox-rows.mjs): the forced cells as the released guide's own fill.sh prints them over the translation f98d39f564d8ebac… (all of the seat's roots in one cut). By AI agents, Wed Nov 11 2026. No macro, syntax, notation, axiom, sorry.
-/
import Derived.Test.YtnbmdlkeeabmjaaChecked
import GoSem.Claim
import GoSem.ClaimJoined
import GoSem.ClaimMapViews
import Derived.JoinedTies
import Derived.KernelRfl
namespace Go.Proofs.Ytnbmdlkeeabmjaa
/- THE CELL 'sum', in the pinned program and in every row, IS THE sha256 OF THE DUMP (.gsa) THAT YtnbmdlkeeabmjaaProg.lean LOADS. Nothing in Lean hashes anything: it is a label: what it is worth is what the hold of that sum in a sandbox is worth. -/
noncomputable def Try.pinned : Pinned := { name := "ytnbmdlkeeabmjaa", sum := "f98d39f564d8ebaccb18dfb0ed1c873c34a1fe21a0405dd1f2b9eb5fa36d1452", checked := Try.checked }
namespace Rows
def none {H : Type} : Left H := { results := [], args := [] }

/-- 'gaugerlaw07.ShapeRight': WHATEVER THE INPUT: true; the input reads as it did. -/
def shapeRightSpec : ChangeSpec := { name := "shapeRight", fn := fun _ => fun
  | [d1, d2] => { results := [.lit (.bool true)], args := [d1, d2] }
  | _ => none }
def shapeRightRow : OpenClaim := { program := "ytnbmdlkeeabmjaa", sum := "f98d39f564d8ebaccb18dfb0ed1c873c34a1fe21a0405dd1f2b9eb5fa36d1452", func := "gauger/gaugerlaw07.ShapeRight", spec := "shapeRight", unfollowed := true, recurses := true, apart := false }
def ShapeRightSaid : Prop := shapeRightRow.holds Try.pinned (OpenSpec.ofChange shapeRightSpec)

/-- ITS FALSE NEIGHBOUR: 'it returns false'. Refute it at one input. -/
def shapeRightWrong : ChangeSpec := { name := "shapeRight", fn := fun _ => fun
  | [d1, d2] => { results := [.lit (.bool false)], args := [d1, d2] }
  | _ => none }
def ShapeRightWrongFalsely : Prop := shapeRightRow.holds Try.pinned (OpenSpec.ofChange shapeRightWrong)

/-- 'gaugerlaw07.ShapeColumns': WHATEVER THE INPUT: true; the input reads as it did. -/
def shapeColumnsSpec : ChangeSpec := { name := "shapeColumns", fn := fun _ => fun
  | [d1, d2, d3] => { results := [.lit (.bool true)], args := [d1, d2, d3] }
  | _ => none }
def shapeColumnsRow : OpenClaim := { program := "ytnbmdlkeeabmjaa", sum := "f98d39f564d8ebaccb18dfb0ed1c873c34a1fe21a0405dd1f2b9eb5fa36d1452", func := "gauger/gaugerlaw07.ShapeColumns", spec := "shapeColumns", unfollowed := true, recurses := true, apart := false }
def ShapeColumnsSaid : Prop := shapeColumnsRow.holds Try.pinned (OpenSpec.ofChange shapeColumnsSpec)

/-- ITS FALSE NEIGHBOUR: 'it returns false'. Refute it at one input. -/
def shapeColumnsWrong : ChangeSpec := { name := "shapeColumns", fn := fun _ => fun
  | [d1, d2, d3] => { results := [.lit (.bool false)], args := [d1, d2, d3] }
  | _ => none }
def ShapeColumnsWrongFalsely : Prop := shapeColumnsRow.holds Try.pinned (OpenSpec.ofChange shapeColumnsWrong)

/-- 'gaugerlaw07.ShapeHashes': WHATEVER THE INPUT: true; the input reads as it did. -/
def shapeHashesSpec : ChangeSpec := { name := "shapeHashes", fn := fun _ => fun
  | [d] => { results := [.lit (.bool true)], args := [d] }
  | _ => none }
def shapeHashesRow : OpenClaim := { program := "ytnbmdlkeeabmjaa", sum := "f98d39f564d8ebaccb18dfb0ed1c873c34a1fe21a0405dd1f2b9eb5fa36d1452", func := "gauger/gaugerlaw07.ShapeHashes", spec := "shapeHashes", unfollowed := true, recurses := true, apart := false }
def ShapeHashesSaid : Prop := shapeHashesRow.holds Try.pinned (OpenSpec.ofChange shapeHashesSpec)

/-- ITS FALSE NEIGHBOUR: 'it returns false'. Refute it at one input. -/
def shapeHashesWrong : ChangeSpec := { name := "shapeHashes", fn := fun _ => fun
  | [d] => { results := [.lit (.bool false)], args := [d] }
  | _ => none }
def ShapeHashesWrongFalsely : Prop := shapeHashesRow.holds Try.pinned (OpenSpec.ofChange shapeHashesWrong)

/-- 'gaugerlaw07.ShapeHalves': WHATEVER THE INPUT: true; the input reads as it did. -/
def shapeHalvesSpec : ChangeSpec := { name := "shapeHalves", fn := fun _ => fun
  | [d1, d2] => { results := [.lit (.bool true)], args := [d1, d2] }
  | _ => none }
def shapeHalvesRow : OpenClaim := { program := "ytnbmdlkeeabmjaa", sum := "f98d39f564d8ebaccb18dfb0ed1c873c34a1fe21a0405dd1f2b9eb5fa36d1452", func := "gauger/gaugerlaw07.ShapeHalves", spec := "shapeHalves", unfollowed := true, recurses := true, apart := false }
def ShapeHalvesSaid : Prop := shapeHalvesRow.holds Try.pinned (OpenSpec.ofChange shapeHalvesSpec)

/-- ITS FALSE NEIGHBOUR: 'it returns false'. Refute it at one input. -/
def shapeHalvesWrong : ChangeSpec := { name := "shapeHalves", fn := fun _ => fun
  | [d1, d2] => { results := [.lit (.bool false)], args := [d1, d2] }
  | _ => none }
def ShapeHalvesWrongFalsely : Prop := shapeHalvesRow.holds Try.pinned (OpenSpec.ofChange shapeHalvesWrong)

/-- 'gaugerlaw07.ShapeBelongs': WHATEVER THE INPUT: true; the input reads as it did. -/
def shapeBelongsSpec : ChangeSpec := { name := "shapeBelongs", fn := fun _ => fun
  | [d1, d2, d3] => { results := [.lit (.bool true)], args := [d1, d2, d3] }
  | _ => none }
def shapeBelongsRow : OpenClaim := { program := "ytnbmdlkeeabmjaa", sum := "f98d39f564d8ebaccb18dfb0ed1c873c34a1fe21a0405dd1f2b9eb5fa36d1452", func := "gauger/gaugerlaw07.ShapeBelongs", spec := "shapeBelongs", unfollowed := true, recurses := true, apart := false }
def ShapeBelongsSaid : Prop := shapeBelongsRow.holds Try.pinned (OpenSpec.ofChange shapeBelongsSpec)

/-- ITS FALSE NEIGHBOUR: 'it returns false'. Refute it at one input. -/
def shapeBelongsWrong : ChangeSpec := { name := "shapeBelongs", fn := fun _ => fun
  | [d1, d2, d3] => { results := [.lit (.bool false)], args := [d1, d2, d3] }
  | _ => none }
def ShapeBelongsWrongFalsely : Prop := shapeBelongsRow.holds Try.pinned (OpenSpec.ofChange shapeBelongsWrong)

/-- 'gaugerlaw07.ShapeWrong': WHATEVER THE INPUT: true; the input reads as it did. -/
def shapeWrongSpec : ChangeSpec := { name := "shapeWrong", fn := fun _ => fun
  | [d1, d2, d3] => { results := [.lit (.bool true)], args := [d1, d2, d3] }
  | _ => none }
def shapeWrongRow : OpenClaim := { program := "ytnbmdlkeeabmjaa", sum := "f98d39f564d8ebaccb18dfb0ed1c873c34a1fe21a0405dd1f2b9eb5fa36d1452", func := "gauger/gaugerlaw07.ShapeWrong", spec := "shapeWrong", unfollowed := true, recurses := true, apart := false }
def ShapeWrongSaid : Prop := shapeWrongRow.holds Try.pinned (OpenSpec.ofChange shapeWrongSpec)

/-- ITS FALSE NEIGHBOUR: 'it returns false'. Refute it at one input. -/
def shapeWrongWrong : ChangeSpec := { name := "shapeWrong", fn := fun _ => fun
  | [d1, d2, d3] => { results := [.lit (.bool false)], args := [d1, d2, d3] }
  | _ => none }
def ShapeWrongWrongFalsely : Prop := shapeWrongRow.holds Try.pinned (OpenSpec.ofChange shapeWrongWrong)

/- THE SECOND FORM. 'bulk': how many values and letters a reading holds, each counted each time it is reached (what is shared counts as often as it is met; a slice's spare places count too). A statement '..UptoSaid' is the law's where the arguments, and the package variables that the reading takes, are together of bulk at most 1048576: NARROWER than '..Said'. Prove '..Said' where nothing that the law and all that it calls make is longer than what came in: it says more and counts as full. Else prove '..UptoSaid'. A law counts once. -/
mutual
def uptoBulk {H : Type} : DataW H → Nat
  | .lit (.string bytes) => bytes.length + 1
  | .lit _ => 1
  | .nil => 1
  | .ptr d => uptoBulk d + 1
  | .slice elems spare => uptoBulkAll elems + uptoBulkAll spare + 1
  | .agg parts => uptoBulkAll parts + 1
  | .iface _ d => uptoBulk d + 1
  | .map entries => uptoBulkEntries entries + 1
  | .held _ => 1
def uptoBulkAll {H : Type} : List (DataW H) → Nat
  | [] => 0
  | d :: r => uptoBulk d + uptoBulkAll r
def uptoBulkEntries {H : Type} : List (Lit × DataW H) → Nat
  | [] => 0
  | x :: r => uptoBulkEntry x + uptoBulkEntries r
def uptoBulkEntry {H : Type} : Lit × DataW H → Nat
  | (.string bytes, d) => bytes.length + uptoBulk d + 1
  | (_, d) => uptoBulk d + 1
 end
def uptoSmall : (H : Type) → List (DataW H) → Bool := fun _ ds => decide (uptoBulkAll ds ≤ 1048576)
def OpenSpec.upto (s : _root_.Go.ChangeSpec) : _root_.Go.OpenSpec := { _root_.Go.OpenSpec.ofChange s with cond := some uptoSmall }

/-- 'gaugerlaw07.ShapeRight', WHERE WHAT IT READS IS OF BULK AT MOST 1048576: true; the input reads as it did. -/
def shapeRightUptoRow : OpenClaim := { program := "ytnbmdlkeeabmjaa", sum := "f98d39f564d8ebaccb18dfb0ed1c873c34a1fe21a0405dd1f2b9eb5fa36d1452", func := "gauger/gaugerlaw07.ShapeRight", spec := "shapeRight", unfollowed := true, recurses := true, apart := false, narrowed := true }
def ShapeRightUptoSaid : Prop := shapeRightUptoRow.holds Try.pinned (OpenSpec.upto shapeRightSpec)

/-- 'gaugerlaw07.ShapeColumns', WHERE WHAT IT READS IS OF BULK AT MOST 1048576: true; the input reads as it did. -/
def shapeColumnsUptoRow : OpenClaim := { program := "ytnbmdlkeeabmjaa", sum := "f98d39f564d8ebaccb18dfb0ed1c873c34a1fe21a0405dd1f2b9eb5fa36d1452", func := "gauger/gaugerlaw07.ShapeColumns", spec := "shapeColumns", unfollowed := true, recurses := true, apart := false, narrowed := true }
def ShapeColumnsUptoSaid : Prop := shapeColumnsUptoRow.holds Try.pinned (OpenSpec.upto shapeColumnsSpec)

/-- 'gaugerlaw07.ShapeHashes', WHERE WHAT IT READS IS OF BULK AT MOST 1048576: true; the input reads as it did. -/
def shapeHashesUptoRow : OpenClaim := { program := "ytnbmdlkeeabmjaa", sum := "f98d39f564d8ebaccb18dfb0ed1c873c34a1fe21a0405dd1f2b9eb5fa36d1452", func := "gauger/gaugerlaw07.ShapeHashes", spec := "shapeHashes", unfollowed := true, recurses := true, apart := false, narrowed := true }
def ShapeHashesUptoSaid : Prop := shapeHashesUptoRow.holds Try.pinned (OpenSpec.upto shapeHashesSpec)

/-- 'gaugerlaw07.ShapeHalves', WHERE WHAT IT READS IS OF BULK AT MOST 1048576: true; the input reads as it did. -/
def shapeHalvesUptoRow : OpenClaim := { program := "ytnbmdlkeeabmjaa", sum := "f98d39f564d8ebaccb18dfb0ed1c873c34a1fe21a0405dd1f2b9eb5fa36d1452", func := "gauger/gaugerlaw07.ShapeHalves", spec := "shapeHalves", unfollowed := true, recurses := true, apart := false, narrowed := true }
def ShapeHalvesUptoSaid : Prop := shapeHalvesUptoRow.holds Try.pinned (OpenSpec.upto shapeHalvesSpec)

/-- 'gaugerlaw07.ShapeBelongs', WHERE WHAT IT READS IS OF BULK AT MOST 1048576: true; the input reads as it did. -/
def shapeBelongsUptoRow : OpenClaim := { program := "ytnbmdlkeeabmjaa", sum := "f98d39f564d8ebaccb18dfb0ed1c873c34a1fe21a0405dd1f2b9eb5fa36d1452", func := "gauger/gaugerlaw07.ShapeBelongs", spec := "shapeBelongs", unfollowed := true, recurses := true, apart := false, narrowed := true }
def ShapeBelongsUptoSaid : Prop := shapeBelongsUptoRow.holds Try.pinned (OpenSpec.upto shapeBelongsSpec)

/-- 'gaugerlaw07.ShapeWrong', WHERE WHAT IT READS IS OF BULK AT MOST 1048576: true; the input reads as it did. -/
def shapeWrongUptoRow : OpenClaim := { program := "ytnbmdlkeeabmjaa", sum := "f98d39f564d8ebaccb18dfb0ed1c873c34a1fe21a0405dd1f2b9eb5fa36d1452", func := "gauger/gaugerlaw07.ShapeWrong", spec := "shapeWrong", unfollowed := true, recurses := true, apart := false, narrowed := true }
def ShapeWrongUptoSaid : Prop := shapeWrongUptoRow.holds Try.pinned (OpenSpec.upto shapeWrongSpec)

end Rows
end Go.Proofs.Ytnbmdlkeeabmjaa
