/-
  No cell of these rows narrows 'for every input' (looked for: loops, veiled, ifaces, maps, wideKeys, modest, calm, conditions, laid).
  DERIVED. THE GIVEN ROWS OF THIS SEAT. 6 by the template 'for every input the law returns true; each argument reads behind the call as it read before'; 0 by the template 'total and deterministic' (their statements: YtpahohnpcfgegaaTotals.lean).
  GIVEN WITH THE SEED: the statements are not yours to turn. If you find one false, say at which input.
  Laid BY PROGRAM, IN A SANDBOX (cutbox-rows.mjs): the forced cells as the released guide's own fill.sh prints them over the translation ff167308a2d960e9… (all of the seat's roots in one cut). By AI agents, Wed Nov 11 2026. No macro, syntax, notation, axiom, sorry.
-/
import Derived.Test.YtpahohnpcfgegaaChecked
import GoSem.Claim
import GoSem.ClaimJoined
import GoSem.ClaimMapViews
import Derived.JoinedTies
import Derived.KernelRfl
namespace Go.Proofs.Ytpahohnpcfgegaa
/- THE CELL 'sum', in the pinned program and in every row, IS THE sha256 OF THE DUMP (.gsa) THAT YtpahohnpcfgegaaProg.lean LOADS. Nothing in Lean hashes anything: it is a label: what it is worth is what the hold of that sum in a sandbox is worth. -/
noncomputable def Try.pinned : Pinned := { name := "ytpahohnpcfgegaa", sum := "ff167308a2d960e92f1689d8b9714b1d1f3d4d7cc992d42be01af3b9a1018aa6", checked := Try.checked }
namespace Rows
def none {H : Type} : Left H := { results := [], args := [] }

/-- 'tachographlaw07.RowsTells': WHATEVER THE INPUT: true; the input reads as it did. -/
def rowsTellsSpec : ChangeSpec := { name := "rowsTells", fn := fun _ => fun
  | [d1, d2, d3] => { results := [.lit (.bool true)], args := [d1, d2, d3] }
  | _ => none }
def rowsTellsRow : OpenClaim := { program := "ytpahohnpcfgegaa", sum := "ff167308a2d960e92f1689d8b9714b1d1f3d4d7cc992d42be01af3b9a1018aa6", func := "tachograph/tachographlaw07.RowsTells", spec := "rowsTells", unfollowed := true, recurses := true, apart := false }
def RowsTellsSaid : Prop := rowsTellsRow.holds Try.pinned (OpenSpec.ofChange rowsTellsSpec)

/-- ITS FALSE NEIGHBOUR: 'it returns false'. Refute it at one input. -/
def rowsTellsWrong : ChangeSpec := { name := "rowsTells", fn := fun _ => fun
  | [d1, d2, d3] => { results := [.lit (.bool false)], args := [d1, d2, d3] }
  | _ => none }
def RowsTellsWrongFalsely : Prop := rowsTellsRow.holds Try.pinned (OpenSpec.ofChange rowsTellsWrong)

/-- 'tachographlaw07.RowsFills': WHATEVER THE INPUT: true; the input reads as it did. -/
def rowsFillsSpec : ChangeSpec := { name := "rowsFills", fn := fun _ => fun
  | [d1, d2, d3] => { results := [.lit (.bool true)], args := [d1, d2, d3] }
  | _ => none }
def rowsFillsRow : OpenClaim := { program := "ytpahohnpcfgegaa", sum := "ff167308a2d960e92f1689d8b9714b1d1f3d4d7cc992d42be01af3b9a1018aa6", func := "tachograph/tachographlaw07.RowsFills", spec := "rowsFills", unfollowed := true, recurses := true, apart := false }
def RowsFillsSaid : Prop := rowsFillsRow.holds Try.pinned (OpenSpec.ofChange rowsFillsSpec)

/-- ITS FALSE NEIGHBOUR: 'it returns false'. Refute it at one input. -/
def rowsFillsWrong : ChangeSpec := { name := "rowsFills", fn := fun _ => fun
  | [d1, d2, d3] => { results := [.lit (.bool false)], args := [d1, d2, d3] }
  | _ => none }
def RowsFillsWrongFalsely : Prop := rowsFillsRow.holds Try.pinned (OpenSpec.ofChange rowsFillsWrong)

/-- 'tachographlaw07.RowsCuts': WHATEVER THE INPUT: true; the input reads as it did. -/
def rowsCutsSpec : ChangeSpec := { name := "rowsCuts", fn := fun _ => fun
  | [d1, d2] => { results := [.lit (.bool true)], args := [d1, d2] }
  | _ => none }
def rowsCutsRow : OpenClaim := { program := "ytpahohnpcfgegaa", sum := "ff167308a2d960e92f1689d8b9714b1d1f3d4d7cc992d42be01af3b9a1018aa6", func := "tachograph/tachographlaw07.RowsCuts", spec := "rowsCuts", unfollowed := true, recurses := true, apart := false }
def RowsCutsSaid : Prop := rowsCutsRow.holds Try.pinned (OpenSpec.ofChange rowsCutsSpec)

/-- ITS FALSE NEIGHBOUR: 'it returns false'. Refute it at one input. -/
def rowsCutsWrong : ChangeSpec := { name := "rowsCuts", fn := fun _ => fun
  | [d1, d2] => { results := [.lit (.bool false)], args := [d1, d2] }
  | _ => none }
def RowsCutsWrongFalsely : Prop := rowsCutsRow.holds Try.pinned (OpenSpec.ofChange rowsCutsWrong)

/-- 'tachographlaw07.RowsParts': WHATEVER THE INPUT: true; the input reads as it did. -/
def rowsPartsSpec : ChangeSpec := { name := "rowsParts", fn := fun _ => fun
  | [d1, d2, d3] => { results := [.lit (.bool true)], args := [d1, d2, d3] }
  | _ => none }
def rowsPartsRow : OpenClaim := { program := "ytpahohnpcfgegaa", sum := "ff167308a2d960e92f1689d8b9714b1d1f3d4d7cc992d42be01af3b9a1018aa6", func := "tachograph/tachographlaw07.RowsParts", spec := "rowsParts", unfollowed := true, recurses := true, apart := false }
def RowsPartsSaid : Prop := rowsPartsRow.holds Try.pinned (OpenSpec.ofChange rowsPartsSpec)

/-- ITS FALSE NEIGHBOUR: 'it returns false'. Refute it at one input. -/
def rowsPartsWrong : ChangeSpec := { name := "rowsParts", fn := fun _ => fun
  | [d1, d2, d3] => { results := [.lit (.bool false)], args := [d1, d2, d3] }
  | _ => none }
def RowsPartsWrongFalsely : Prop := rowsPartsRow.holds Try.pinned (OpenSpec.ofChange rowsPartsWrong)

/-- 'tachographlaw07.RowsTotals': WHATEVER THE INPUT: true; the input reads as it did. -/
def rowsTotalsSpec : ChangeSpec := { name := "rowsTotals", fn := fun _ => fun
  | [d1, d2] => { results := [.lit (.bool true)], args := [d1, d2] }
  | _ => none }
def rowsTotalsRow : OpenClaim := { program := "ytpahohnpcfgegaa", sum := "ff167308a2d960e92f1689d8b9714b1d1f3d4d7cc992d42be01af3b9a1018aa6", func := "tachograph/tachographlaw07.RowsTotals", spec := "rowsTotals", unfollowed := true, recurses := true, apart := false }
def RowsTotalsSaid : Prop := rowsTotalsRow.holds Try.pinned (OpenSpec.ofChange rowsTotalsSpec)

/-- ITS FALSE NEIGHBOUR: 'it returns false'. Refute it at one input. -/
def rowsTotalsWrong : ChangeSpec := { name := "rowsTotals", fn := fun _ => fun
  | [d1, d2] => { results := [.lit (.bool false)], args := [d1, d2] }
  | _ => none }
def RowsTotalsWrongFalsely : Prop := rowsTotalsRow.holds Try.pinned (OpenSpec.ofChange rowsTotalsWrong)

/-- 'tachographlaw07.RowsTimes': WHATEVER THE INPUT: true; the input reads as it did. -/
def rowsTimesSpec : ChangeSpec := { name := "rowsTimes", fn := fun _ => fun
  | [d1, d2] => { results := [.lit (.bool true)], args := [d1, d2] }
  | _ => none }
def rowsTimesRow : OpenClaim := { program := "ytpahohnpcfgegaa", sum := "ff167308a2d960e92f1689d8b9714b1d1f3d4d7cc992d42be01af3b9a1018aa6", func := "tachograph/tachographlaw07.RowsTimes", spec := "rowsTimes", unfollowed := true, recurses := true, apart := false }
def RowsTimesSaid : Prop := rowsTimesRow.holds Try.pinned (OpenSpec.ofChange rowsTimesSpec)

/-- ITS FALSE NEIGHBOUR: 'it returns false'. Refute it at one input. -/
def rowsTimesWrong : ChangeSpec := { name := "rowsTimes", fn := fun _ => fun
  | [d1, d2] => { results := [.lit (.bool false)], args := [d1, d2] }
  | _ => none }
def RowsTimesWrongFalsely : Prop := rowsTimesRow.holds Try.pinned (OpenSpec.ofChange rowsTimesWrong)

/- THE SECOND FORM. 'bulk': how many values and letters a reading holds, each counted each time it is reached (what is shared counts as often as it is met; a slice's spare places count too). A statement '..UptoSaid' is the law's where the arguments, and the package variables that the reading takes, are together of bulk at most 1048576: NARROWER than '..Said'. Prove '..Said' where nothing that the law and all that it calls make is longer than what came in: it says more and counts as full. Else prove '..UptoSaid'. A law counts once. -/
mutual
def uptoBulk {H : Type} : DataW H → Nat
  | .lit (.string bytes) => bytes.length + 1
  | .lit _ => 1
  | .nil => 1
  | .ptr d => uptoBulk d + 1
  | .slice elems spare => uptoBulkAll elems + uptoBulkAll spare + 1
  | .agg parts => uptoBulkAll parts + 1
  | .iface _ d => uptoBulk d + 1
  | .map entries => uptoBulkEntries entries + 1
  | .held _ => 1
def uptoBulkAll {H : Type} : List (DataW H) → Nat
  | [] => 0
  | d :: r => uptoBulk d + uptoBulkAll r
def uptoBulkEntries {H : Type} : List (Lit × DataW H) → Nat
  | [] => 0
  | x :: r => uptoBulkEntry x + uptoBulkEntries r
def uptoBulkEntry {H : Type} : Lit × DataW H → Nat
  | (.string bytes, d) => bytes.length + uptoBulk d + 1
  | (_, d) => uptoBulk d + 1
 end
def uptoSmall : (H : Type) → List (DataW H) → Bool := fun _ ds => decide (uptoBulkAll ds ≤ 1048576)
def OpenSpec.upto (s : _root_.Go.ChangeSpec) : _root_.Go.OpenSpec := { _root_.Go.OpenSpec.ofChange s with cond := some uptoSmall }

/-- 'tachographlaw07.RowsTells', WHERE WHAT IT READS IS OF BULK AT MOST 1048576: true; the input reads as it did. -/
def rowsTellsUptoRow : OpenClaim := { program := "ytpahohnpcfgegaa", sum := "ff167308a2d960e92f1689d8b9714b1d1f3d4d7cc992d42be01af3b9a1018aa6", func := "tachograph/tachographlaw07.RowsTells", spec := "rowsTells", unfollowed := true, recurses := true, apart := false, narrowed := true }
def RowsTellsUptoSaid : Prop := rowsTellsUptoRow.holds Try.pinned (OpenSpec.upto rowsTellsSpec)

/-- 'tachographlaw07.RowsFills', WHERE WHAT IT READS IS OF BULK AT MOST 1048576: true; the input reads as it did. -/
def rowsFillsUptoRow : OpenClaim := { program := "ytpahohnpcfgegaa", sum := "ff167308a2d960e92f1689d8b9714b1d1f3d4d7cc992d42be01af3b9a1018aa6", func := "tachograph/tachographlaw07.RowsFills", spec := "rowsFills", unfollowed := true, recurses := true, apart := false, narrowed := true }
def RowsFillsUptoSaid : Prop := rowsFillsUptoRow.holds Try.pinned (OpenSpec.upto rowsFillsSpec)

/-- 'tachographlaw07.RowsCuts', WHERE WHAT IT READS IS OF BULK AT MOST 1048576: true; the input reads as it did. -/
def rowsCutsUptoRow : OpenClaim := { program := "ytpahohnpcfgegaa", sum := "ff167308a2d960e92f1689d8b9714b1d1f3d4d7cc992d42be01af3b9a1018aa6", func := "tachograph/tachographlaw07.RowsCuts", spec := "rowsCuts", unfollowed := true, recurses := true, apart := false, narrowed := true }
def RowsCutsUptoSaid : Prop := rowsCutsUptoRow.holds Try.pinned (OpenSpec.upto rowsCutsSpec)

/-- 'tachographlaw07.RowsParts', WHERE WHAT IT READS IS OF BULK AT MOST 1048576: true; the input reads as it did. -/
def rowsPartsUptoRow : OpenClaim := { program := "ytpahohnpcfgegaa", sum := "ff167308a2d960e92f1689d8b9714b1d1f3d4d7cc992d42be01af3b9a1018aa6", func := "tachograph/tachographlaw07.RowsParts", spec := "rowsParts", unfollowed := true, recurses := true, apart := false, narrowed := true }
def RowsPartsUptoSaid : Prop := rowsPartsUptoRow.holds Try.pinned (OpenSpec.upto rowsPartsSpec)

/-- 'tachographlaw07.RowsTotals', WHERE WHAT IT READS IS OF BULK AT MOST 1048576: true; the input reads as it did. -/
def rowsTotalsUptoRow : OpenClaim := { program := "ytpahohnpcfgegaa", sum := "ff167308a2d960e92f1689d8b9714b1d1f3d4d7cc992d42be01af3b9a1018aa6", func := "tachograph/tachographlaw07.RowsTotals", spec := "rowsTotals", unfollowed := true, recurses := true, apart := false, narrowed := true }
def RowsTotalsUptoSaid : Prop := rowsTotalsUptoRow.holds Try.pinned (OpenSpec.upto rowsTotalsSpec)

/-- 'tachographlaw07.RowsTimes', WHERE WHAT IT READS IS OF BULK AT MOST 1048576: true; the input reads as it did. -/
def rowsTimesUptoRow : OpenClaim := { program := "ytpahohnpcfgegaa", sum := "ff167308a2d960e92f1689d8b9714b1d1f3d4d7cc992d42be01af3b9a1018aa6", func := "tachograph/tachographlaw07.RowsTimes", spec := "rowsTimes", unfollowed := true, recurses := true, apart := false, narrowed := true }
def RowsTimesUptoSaid : Prop := rowsTimesUptoRow.holds Try.pinned (OpenSpec.upto rowsTimesSpec)

end Rows
end Go.Proofs.Ytpahohnpcfgegaa
