/-
  No cell of these rows narrows 'for every input' (looked for: loops, veiled, ifaces, maps, wideKeys, modest, calm, conditions, laid).
  DERIVED. THE GIVEN ROWS OF THIS SEAT. 6 by the template 'for every input the law returns true; each argument reads behind the call as it read before'; 0 by the template 'total and deterministic' (their statements: YtlogkhifgkkjeaaTotals.lean).
  GIVEN WITH THE SEED: the statements are not yours to turn. If you find one false, say at which input.
  Laid BY PROGRAM, IN A SANDBOX (cutbox-rows.mjs): the forced cells as the released guide's own fill.sh prints them over the translation f0b96d4a69a5d384… (all of the seat's roots in one cut). By AI agents, Wed Nov 11 2026. No macro, syntax, notation, axiom, sorry.
-/
import Derived.Test.YtlogkhifgkkjeaaChecked
import GoSem.Claim
import GoSem.ClaimJoined
import GoSem.ClaimMapViews
import Derived.JoinedTies
import Derived.KernelRfl
namespace Go.Proofs.Ytlogkhifgkkjeaa
/- THE CELL 'sum', in the pinned program and in every row, IS THE sha256 OF THE DUMP (.gsa) THAT YtlogkhifgkkjeaaProg.lean LOADS. Nothing in Lean hashes anything: it is a label: what it is worth is what the hold of that sum in a sandbox is worth. -/
noncomputable def Try.pinned : Pinned := { name := "ytlogkhifgkkjeaa", sum := "f0b96d4a69a5d3849bddd116056e852ae61618e48e4678c44cf97de1c620750e", checked := Try.checked }
namespace Rows
def none {H : Type} : Left H := { results := [], args := [] }

/-- 'tachographlaw11.GraphPlays': WHATEVER THE INPUT: true; the input reads as it did. -/
def graphPlaysSpec : ChangeSpec := { name := "graphPlays", fn := fun _ => fun
  | [d1, d2] => { results := [.lit (.bool true)], args := [d1, d2] }
  | _ => none }
def graphPlaysRow : OpenClaim := { program := "ytlogkhifgkkjeaa", sum := "f0b96d4a69a5d3849bddd116056e852ae61618e48e4678c44cf97de1c620750e", func := "tachograph/tachographlaw11.GraphPlays", spec := "graphPlays", inPlace := ["internal/bytealg.abigen_runtime_cmpstring", "slices.overlaps[tachograph/graph.Rule]"], unfollowed := true, recurses := true, apart := false }
def GraphPlaysSaid : Prop := graphPlaysRow.holds Try.pinned (OpenSpec.ofChange graphPlaysSpec)

/-- ITS FALSE NEIGHBOUR: 'it returns false'. Refute it at one input. -/
def graphPlaysWrong : ChangeSpec := { name := "graphPlays", fn := fun _ => fun
  | [d1, d2] => { results := [.lit (.bool false)], args := [d1, d2] }
  | _ => none }
def GraphPlaysWrongFalsely : Prop := graphPlaysRow.holds Try.pinned (OpenSpec.ofChange graphPlaysWrong)

/-- 'tachographlaw11.GraphFlat': WHATEVER THE INPUT: true; the input reads as it did. -/
def graphFlatSpec : ChangeSpec := { name := "graphFlat", fn := fun _ => fun
  | [d] => { results := [.lit (.bool true)], args := [d] }
  | _ => none }
def graphFlatRow : OpenClaim := { program := "ytlogkhifgkkjeaa", sum := "f0b96d4a69a5d3849bddd116056e852ae61618e48e4678c44cf97de1c620750e", func := "tachograph/tachographlaw11.GraphFlat", spec := "graphFlat", inPlace := ["internal/bytealg.abigen_runtime_cmpstring", "slices.overlaps[tachograph/graph.Rule]"], unfollowed := true, recurses := true, apart := false }
def GraphFlatSaid : Prop := graphFlatRow.holds Try.pinned (OpenSpec.ofChange graphFlatSpec)

/-- ITS FALSE NEIGHBOUR: 'it returns false'. Refute it at one input. -/
def graphFlatWrong : ChangeSpec := { name := "graphFlat", fn := fun _ => fun
  | [d] => { results := [.lit (.bool false)], args := [d] }
  | _ => none }
def GraphFlatWrongFalsely : Prop := graphFlatRow.holds Try.pinned (OpenSpec.ofChange graphFlatWrong)

/-- 'tachographlaw11.GraphGone': WHATEVER THE INPUT: true; the input reads as it did. -/
def graphGoneSpec : ChangeSpec := { name := "graphGone", fn := fun _ => fun
  | [d1, d2, d3] => { results := [.lit (.bool true)], args := [d1, d2, d3] }
  | _ => none }
def graphGoneRow : OpenClaim := { program := "ytlogkhifgkkjeaa", sum := "f0b96d4a69a5d3849bddd116056e852ae61618e48e4678c44cf97de1c620750e", func := "tachograph/tachographlaw11.GraphGone", spec := "graphGone", inPlace := ["internal/bytealg.abigen_runtime_cmpstring", "slices.overlaps[tachograph/graph.Rule]"], unfollowed := true, recurses := true, apart := false }
def GraphGoneSaid : Prop := graphGoneRow.holds Try.pinned (OpenSpec.ofChange graphGoneSpec)

/-- ITS FALSE NEIGHBOUR: 'it returns false'. Refute it at one input. -/
def graphGoneWrong : ChangeSpec := { name := "graphGone", fn := fun _ => fun
  | [d1, d2, d3] => { results := [.lit (.bool false)], args := [d1, d2, d3] }
  | _ => none }
def GraphGoneWrongFalsely : Prop := graphGoneRow.holds Try.pinned (OpenSpec.ofChange graphGoneWrong)

/-- 'tachographlaw11.GraphNil': WHATEVER THE INPUT: true; the input reads as it did. -/
def graphNilSpec : ChangeSpec := { name := "graphNil", fn := fun _ => fun
  | [d] => { results := [.lit (.bool true)], args := [d] }
  | _ => none }
def graphNilRow : OpenClaim := { program := "ytlogkhifgkkjeaa", sum := "f0b96d4a69a5d3849bddd116056e852ae61618e48e4678c44cf97de1c620750e", func := "tachograph/tachographlaw11.GraphNil", spec := "graphNil", inPlace := ["internal/bytealg.abigen_runtime_cmpstring", "slices.overlaps[tachograph/graph.Rule]"], unfollowed := true, recurses := true, apart := false }
def GraphNilSaid : Prop := graphNilRow.holds Try.pinned (OpenSpec.ofChange graphNilSpec)

/-- ITS FALSE NEIGHBOUR: 'it returns false'. Refute it at one input. -/
def graphNilWrong : ChangeSpec := { name := "graphNil", fn := fun _ => fun
  | [d] => { results := [.lit (.bool false)], args := [d] }
  | _ => none }
def GraphNilWrongFalsely : Prop := graphNilRow.holds Try.pinned (OpenSpec.ofChange graphNilWrong)

/-- 'tachographlaw11.GraphOf': WHATEVER THE INPUT: true; the input reads as it did. -/
def graphOfSpec : ChangeSpec := { name := "graphOf", fn := fun _ => fun
  | [d] => { results := [.lit (.bool true)], args := [d] }
  | _ => none }
def graphOfRow : OpenClaim := { program := "ytlogkhifgkkjeaa", sum := "f0b96d4a69a5d3849bddd116056e852ae61618e48e4678c44cf97de1c620750e", func := "tachograph/tachographlaw11.GraphOf", spec := "graphOf", inPlace := ["internal/bytealg.abigen_runtime_cmpstring", "slices.overlaps[tachograph/graph.Rule]"], unfollowed := true, recurses := true, apart := false }
def GraphOfSaid : Prop := graphOfRow.holds Try.pinned (OpenSpec.ofChange graphOfSpec)

/-- ITS FALSE NEIGHBOUR: 'it returns false'. Refute it at one input. -/
def graphOfWrong : ChangeSpec := { name := "graphOf", fn := fun _ => fun
  | [d] => { results := [.lit (.bool false)], args := [d] }
  | _ => none }
def GraphOfWrongFalsely : Prop := graphOfRow.holds Try.pinned (OpenSpec.ofChange graphOfWrong)

/-- 'tachographlaw11.GraphRefuses': WHATEVER THE INPUT: true; the input reads as it did. -/
def graphRefusesSpec : ChangeSpec := { name := "graphRefuses", fn := fun _ => fun
  | [d1, d2] => { results := [.lit (.bool true)], args := [d1, d2] }
  | _ => none }
def graphRefusesRow : OpenClaim := { program := "ytlogkhifgkkjeaa", sum := "f0b96d4a69a5d3849bddd116056e852ae61618e48e4678c44cf97de1c620750e", func := "tachograph/tachographlaw11.GraphRefuses", spec := "graphRefuses", inPlace := ["internal/bytealg.abigen_runtime_cmpstring", "slices.overlaps[tachograph/graph.Rule]"], unfollowed := true, recurses := true, apart := false }
def GraphRefusesSaid : Prop := graphRefusesRow.holds Try.pinned (OpenSpec.ofChange graphRefusesSpec)

/-- ITS FALSE NEIGHBOUR: 'it returns false'. Refute it at one input. -/
def graphRefusesWrong : ChangeSpec := { name := "graphRefuses", fn := fun _ => fun
  | [d1, d2] => { results := [.lit (.bool false)], args := [d1, d2] }
  | _ => none }
def GraphRefusesWrongFalsely : Prop := graphRefusesRow.holds Try.pinned (OpenSpec.ofChange graphRefusesWrong)

/- THE SECOND FORM. 'bulk': how many values and letters a reading holds, each counted each time it is reached (what is shared counts as often as it is met; a slice's spare places count too). A statement '..UptoSaid' is the law's where the arguments, and the package variables that the reading takes, are together of bulk at most 1048576: NARROWER than '..Said'. Prove '..Said' where nothing that the law and all that it calls make is longer than what came in: it says more and counts as full. Else prove '..UptoSaid'. A law counts once. -/
mutual
def uptoBulk {H : Type} : DataW H → Nat
  | .lit (.string bytes) => bytes.length + 1
  | .lit _ => 1
  | .nil => 1
  | .ptr d => uptoBulk d + 1
  | .slice elems spare => uptoBulkAll elems + uptoBulkAll spare + 1
  | .agg parts => uptoBulkAll parts + 1
  | .iface _ d => uptoBulk d + 1
  | .map entries => uptoBulkEntries entries + 1
  | .held _ => 1
def uptoBulkAll {H : Type} : List (DataW H) → Nat
  | [] => 0
  | d :: r => uptoBulk d + uptoBulkAll r
def uptoBulkEntries {H : Type} : List (Lit × DataW H) → Nat
  | [] => 0
  | x :: r => uptoBulkEntry x + uptoBulkEntries r
def uptoBulkEntry {H : Type} : Lit × DataW H → Nat
  | (.string bytes, d) => bytes.length + uptoBulk d + 1
  | (_, d) => uptoBulk d + 1
 end
def uptoSmall : (H : Type) → List (DataW H) → Bool := fun _ ds => decide (uptoBulkAll ds ≤ 1048576)
def OpenSpec.upto (s : _root_.Go.ChangeSpec) : _root_.Go.OpenSpec := { _root_.Go.OpenSpec.ofChange s with cond := some uptoSmall }

/-- 'tachographlaw11.GraphPlays', WHERE WHAT IT READS IS OF BULK AT MOST 1048576: true; the input reads as it did. -/
def graphPlaysUptoRow : OpenClaim := { program := "ytlogkhifgkkjeaa", sum := "f0b96d4a69a5d3849bddd116056e852ae61618e48e4678c44cf97de1c620750e", func := "tachograph/tachographlaw11.GraphPlays", spec := "graphPlays", inPlace := ["internal/bytealg.abigen_runtime_cmpstring", "slices.overlaps[tachograph/graph.Rule]"], unfollowed := true, recurses := true, apart := false, narrowed := true }
def GraphPlaysUptoSaid : Prop := graphPlaysUptoRow.holds Try.pinned (OpenSpec.upto graphPlaysSpec)

/-- 'tachographlaw11.GraphFlat', WHERE WHAT IT READS IS OF BULK AT MOST 1048576: true; the input reads as it did. -/
def graphFlatUptoRow : OpenClaim := { program := "ytlogkhifgkkjeaa", sum := "f0b96d4a69a5d3849bddd116056e852ae61618e48e4678c44cf97de1c620750e", func := "tachograph/tachographlaw11.GraphFlat", spec := "graphFlat", inPlace := ["internal/bytealg.abigen_runtime_cmpstring", "slices.overlaps[tachograph/graph.Rule]"], unfollowed := true, recurses := true, apart := false, narrowed := true }
def GraphFlatUptoSaid : Prop := graphFlatUptoRow.holds Try.pinned (OpenSpec.upto graphFlatSpec)

/-- 'tachographlaw11.GraphGone', WHERE WHAT IT READS IS OF BULK AT MOST 1048576: true; the input reads as it did. -/
def graphGoneUptoRow : OpenClaim := { program := "ytlogkhifgkkjeaa", sum := "f0b96d4a69a5d3849bddd116056e852ae61618e48e4678c44cf97de1c620750e", func := "tachograph/tachographlaw11.GraphGone", spec := "graphGone", inPlace := ["internal/bytealg.abigen_runtime_cmpstring", "slices.overlaps[tachograph/graph.Rule]"], unfollowed := true, recurses := true, apart := false, narrowed := true }
def GraphGoneUptoSaid : Prop := graphGoneUptoRow.holds Try.pinned (OpenSpec.upto graphGoneSpec)

/-- 'tachographlaw11.GraphNil', WHERE WHAT IT READS IS OF BULK AT MOST 1048576: true; the input reads as it did. -/
def graphNilUptoRow : OpenClaim := { program := "ytlogkhifgkkjeaa", sum := "f0b96d4a69a5d3849bddd116056e852ae61618e48e4678c44cf97de1c620750e", func := "tachograph/tachographlaw11.GraphNil", spec := "graphNil", inPlace := ["internal/bytealg.abigen_runtime_cmpstring", "slices.overlaps[tachograph/graph.Rule]"], unfollowed := true, recurses := true, apart := false, narrowed := true }
def GraphNilUptoSaid : Prop := graphNilUptoRow.holds Try.pinned (OpenSpec.upto graphNilSpec)

/-- 'tachographlaw11.GraphOf', WHERE WHAT IT READS IS OF BULK AT MOST 1048576: true; the input reads as it did. -/
def graphOfUptoRow : OpenClaim := { program := "ytlogkhifgkkjeaa", sum := "f0b96d4a69a5d3849bddd116056e852ae61618e48e4678c44cf97de1c620750e", func := "tachograph/tachographlaw11.GraphOf", spec := "graphOf", inPlace := ["internal/bytealg.abigen_runtime_cmpstring", "slices.overlaps[tachograph/graph.Rule]"], unfollowed := true, recurses := true, apart := false, narrowed := true }
def GraphOfUptoSaid : Prop := graphOfUptoRow.holds Try.pinned (OpenSpec.upto graphOfSpec)

/-- 'tachographlaw11.GraphRefuses', WHERE WHAT IT READS IS OF BULK AT MOST 1048576: true; the input reads as it did. -/
def graphRefusesUptoRow : OpenClaim := { program := "ytlogkhifgkkjeaa", sum := "f0b96d4a69a5d3849bddd116056e852ae61618e48e4678c44cf97de1c620750e", func := "tachograph/tachographlaw11.GraphRefuses", spec := "graphRefuses", inPlace := ["internal/bytealg.abigen_runtime_cmpstring", "slices.overlaps[tachograph/graph.Rule]"], unfollowed := true, recurses := true, apart := false, narrowed := true }
def GraphRefusesUptoSaid : Prop := graphRefusesUptoRow.holds Try.pinned (OpenSpec.upto graphRefusesSpec)

end Rows
end Go.Proofs.Ytlogkhifgkkjeaa
