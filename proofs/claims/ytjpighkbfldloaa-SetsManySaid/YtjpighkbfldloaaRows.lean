/-
  No cell of these rows narrows 'for every input' (looked for: loops, veiled, ifaces, maps, wideKeys, modest, calm, conditions, laid).
  DERIVED. THE GIVEN ROWS OF THIS SEAT. 6 by the template 'for every input the law returns true; each argument reads behind the call as it read before'; 0 by the template 'total and deterministic' (their statements: YtjpighkbfldloaaTotals.lean).
  GIVEN WITH THE SEED: the statements are not yours to turn. If you find one false, say at which input.
  Laid BY PROGRAM, IN A SANDBOX (cutbox-rows.mjs): the forced cells as the released guide's own fill.sh prints them over the translation bab7e80f69297f2a… (all of the seat's roots in one cut). By AI agents, Wed Nov 11 2026. No macro, syntax, notation, axiom, sorry.
-/
import Derived.Test.YtjpighkbfldloaaChecked
import GoSem.Claim
import GoSem.ClaimJoined
import GoSem.ClaimMapViews
import Derived.JoinedTies
import Derived.KernelRfl
namespace Go.Proofs.Ytjpighkbfldloaa
/- THE CELL 'sum', in the pinned program and in every row, IS THE sha256 OF THE DUMP (.gsa) THAT YtjpighkbfldloaaProg.lean LOADS. Nothing in Lean hashes anything: it is a label: what it is worth is what the hold of that sum in a sandbox is worth. -/
noncomputable def Try.pinned : Pinned := { name := "ytjpighkbfldloaa", sum := "bab7e80f69297f2adaacaae7f625012139fde1179f5d5d033f4ce3cfc692f144", checked := Try.checked }
namespace Rows
def none {H : Type} : Left H := { results := [], args := [] }

/-- 'tachographlaw08.SetsTell': WHATEVER THE INPUT: true; the input reads as it did. -/
def setsTellSpec : ChangeSpec := { name := "setsTell", fn := fun _ => fun
  | [d1, d2, d3] => { results := [.lit (.bool true)], args := [d1, d2, d3] }
  | _ => none }
def setsTellRow : OpenClaim := { program := "ytjpighkbfldloaa", sum := "bab7e80f69297f2adaacaae7f625012139fde1179f5d5d033f4ce3cfc692f144", func := "tachograph/tachographlaw08.SetsTell", spec := "setsTell", recurses := true, apart := false }
def SetsTellSaid : Prop := setsTellRow.holds Try.pinned (OpenSpec.ofChange setsTellSpec)

/-- ITS FALSE NEIGHBOUR: 'it returns false'. Refute it at one input. -/
def setsTellWrong : ChangeSpec := { name := "setsTell", fn := fun _ => fun
  | [d1, d2, d3] => { results := [.lit (.bool false)], args := [d1, d2, d3] }
  | _ => none }
def SetsTellWrongFalsely : Prop := setsTellRow.holds Try.pinned (OpenSpec.ofChange setsTellWrong)

/-- 'tachographlaw08.SetsHave': WHATEVER THE INPUT: true; the input reads as it did. -/
def setsHaveSpec : ChangeSpec := { name := "setsHave", fn := fun _ => fun
  | [d1, d2, d3] => { results := [.lit (.bool true)], args := [d1, d2, d3] }
  | _ => none }
def setsHaveRow : OpenClaim := { program := "ytjpighkbfldloaa", sum := "bab7e80f69297f2adaacaae7f625012139fde1179f5d5d033f4ce3cfc692f144", func := "tachograph/tachographlaw08.SetsHave", spec := "setsHave", recurses := true, apart := false }
def SetsHaveSaid : Prop := setsHaveRow.holds Try.pinned (OpenSpec.ofChange setsHaveSpec)

/-- ITS FALSE NEIGHBOUR: 'it returns false'. Refute it at one input. -/
def setsHaveWrong : ChangeSpec := { name := "setsHave", fn := fun _ => fun
  | [d1, d2, d3] => { results := [.lit (.bool false)], args := [d1, d2, d3] }
  | _ => none }
def SetsHaveWrongFalsely : Prop := setsHaveRow.holds Try.pinned (OpenSpec.ofChange setsHaveWrong)

/-- 'tachographlaw08.SetsOrders': WHATEVER THE INPUT: true; the input reads as it did. -/
def setsOrdersSpec : ChangeSpec := { name := "setsOrders", fn := fun _ => fun
  | [d1, d2, d3] => { results := [.lit (.bool true)], args := [d1, d2, d3] }
  | _ => none }
def setsOrdersRow : OpenClaim := { program := "ytjpighkbfldloaa", sum := "bab7e80f69297f2adaacaae7f625012139fde1179f5d5d033f4ce3cfc692f144", func := "tachograph/tachographlaw08.SetsOrders", spec := "setsOrders", recurses := true, apart := false }
def SetsOrdersSaid : Prop := setsOrdersRow.holds Try.pinned (OpenSpec.ofChange setsOrdersSpec)

/-- ITS FALSE NEIGHBOUR: 'it returns false'. Refute it at one input. -/
def setsOrdersWrong : ChangeSpec := { name := "setsOrders", fn := fun _ => fun
  | [d1, d2, d3] => { results := [.lit (.bool false)], args := [d1, d2, d3] }
  | _ => none }
def SetsOrdersWrongFalsely : Prop := setsOrdersRow.holds Try.pinned (OpenSpec.ofChange setsOrdersWrong)

/-- 'tachographlaw08.SetsAgain': WHATEVER THE INPUT: true; the input reads as it did. -/
def setsAgainSpec : ChangeSpec := { name := "setsAgain", fn := fun _ => fun
  | [d1, d2] => { results := [.lit (.bool true)], args := [d1, d2] }
  | _ => none }
def setsAgainRow : OpenClaim := { program := "ytjpighkbfldloaa", sum := "bab7e80f69297f2adaacaae7f625012139fde1179f5d5d033f4ce3cfc692f144", func := "tachograph/tachographlaw08.SetsAgain", spec := "setsAgain", recurses := true, apart := false }
def SetsAgainSaid : Prop := setsAgainRow.holds Try.pinned (OpenSpec.ofChange setsAgainSpec)

/-- ITS FALSE NEIGHBOUR: 'it returns false'. Refute it at one input. -/
def setsAgainWrong : ChangeSpec := { name := "setsAgain", fn := fun _ => fun
  | [d1, d2] => { results := [.lit (.bool false)], args := [d1, d2] }
  | _ => none }
def SetsAgainWrongFalsely : Prop := setsAgainRow.holds Try.pinned (OpenSpec.ofChange setsAgainWrong)

/-- 'tachographlaw08.SetsSizes': WHATEVER THE INPUT: true; the input reads as it did. -/
def setsSizesSpec : ChangeSpec := { name := "setsSizes", fn := fun _ => fun
  | [d1, d2] => { results := [.lit (.bool true)], args := [d1, d2] }
  | _ => none }
def setsSizesRow : OpenClaim := { program := "ytjpighkbfldloaa", sum := "bab7e80f69297f2adaacaae7f625012139fde1179f5d5d033f4ce3cfc692f144", func := "tachograph/tachographlaw08.SetsSizes", spec := "setsSizes", recurses := true, apart := false }
def SetsSizesSaid : Prop := setsSizesRow.holds Try.pinned (OpenSpec.ofChange setsSizesSpec)

/-- ITS FALSE NEIGHBOUR: 'it returns false'. Refute it at one input. -/
def setsSizesWrong : ChangeSpec := { name := "setsSizes", fn := fun _ => fun
  | [d1, d2] => { results := [.lit (.bool false)], args := [d1, d2] }
  | _ => none }
def SetsSizesWrongFalsely : Prop := setsSizesRow.holds Try.pinned (OpenSpec.ofChange setsSizesWrong)

/-- 'tachographlaw08.SetsMany': WHATEVER THE INPUT: true; the input reads as it did. -/
def setsManySpec : ChangeSpec := { name := "setsMany", fn := fun _ => fun
  | [d] => { results := [.lit (.bool true)], args := [d] }
  | _ => none }
def setsManyRow : OpenClaim := { program := "ytjpighkbfldloaa", sum := "bab7e80f69297f2adaacaae7f625012139fde1179f5d5d033f4ce3cfc692f144", func := "tachograph/tachographlaw08.SetsMany", spec := "setsMany", recurses := true, apart := false }
def SetsManySaid : Prop := setsManyRow.holds Try.pinned (OpenSpec.ofChange setsManySpec)

/-- ITS FALSE NEIGHBOUR: 'it returns false'. Refute it at one input. -/
def setsManyWrong : ChangeSpec := { name := "setsMany", fn := fun _ => fun
  | [d] => { results := [.lit (.bool false)], args := [d] }
  | _ => none }
def SetsManyWrongFalsely : Prop := setsManyRow.holds Try.pinned (OpenSpec.ofChange setsManyWrong)

/- THE SECOND FORM. 'bulk': how many values and letters a reading holds, each counted each time it is reached (what is shared counts as often as it is met; a slice's spare places count too). A statement '..UptoSaid' is the law's where the arguments, and the package variables that the reading takes, are together of bulk at most 1048576: NARROWER than '..Said'. Prove '..Said' where nothing that the law and all that it calls make is longer than what came in: it says more and counts as full. Else prove '..UptoSaid'. A law counts once. -/
mutual
def uptoBulk {H : Type} : DataW H → Nat
  | .lit (.string bytes) => bytes.length + 1
  | .lit _ => 1
  | .nil => 1
  | .ptr d => uptoBulk d + 1
  | .slice elems spare => uptoBulkAll elems + uptoBulkAll spare + 1
  | .agg parts => uptoBulkAll parts + 1
  | .iface _ d => uptoBulk d + 1
  | .map entries => uptoBulkEntries entries + 1
  | .held _ => 1
def uptoBulkAll {H : Type} : List (DataW H) → Nat
  | [] => 0
  | d :: r => uptoBulk d + uptoBulkAll r
def uptoBulkEntries {H : Type} : List (Lit × DataW H) → Nat
  | [] => 0
  | x :: r => uptoBulkEntry x + uptoBulkEntries r
def uptoBulkEntry {H : Type} : Lit × DataW H → Nat
  | (.string bytes, d) => bytes.length + uptoBulk d + 1
  | (_, d) => uptoBulk d + 1
 end
def uptoSmall : (H : Type) → List (DataW H) → Bool := fun _ ds => decide (uptoBulkAll ds ≤ 1048576)
def OpenSpec.upto (s : _root_.Go.ChangeSpec) : _root_.Go.OpenSpec := { _root_.Go.OpenSpec.ofChange s with cond := some uptoSmall }

/-- 'tachographlaw08.SetsTell', WHERE WHAT IT READS IS OF BULK AT MOST 1048576: true; the input reads as it did. -/
def setsTellUptoRow : OpenClaim := { program := "ytjpighkbfldloaa", sum := "bab7e80f69297f2adaacaae7f625012139fde1179f5d5d033f4ce3cfc692f144", func := "tachograph/tachographlaw08.SetsTell", spec := "setsTell", recurses := true, apart := false, narrowed := true }
def SetsTellUptoSaid : Prop := setsTellUptoRow.holds Try.pinned (OpenSpec.upto setsTellSpec)

/-- 'tachographlaw08.SetsHave', WHERE WHAT IT READS IS OF BULK AT MOST 1048576: true; the input reads as it did. -/
def setsHaveUptoRow : OpenClaim := { program := "ytjpighkbfldloaa", sum := "bab7e80f69297f2adaacaae7f625012139fde1179f5d5d033f4ce3cfc692f144", func := "tachograph/tachographlaw08.SetsHave", spec := "setsHave", recurses := true, apart := false, narrowed := true }
def SetsHaveUptoSaid : Prop := setsHaveUptoRow.holds Try.pinned (OpenSpec.upto setsHaveSpec)

/-- 'tachographlaw08.SetsOrders', WHERE WHAT IT READS IS OF BULK AT MOST 1048576: true; the input reads as it did. -/
def setsOrdersUptoRow : OpenClaim := { program := "ytjpighkbfldloaa", sum := "bab7e80f69297f2adaacaae7f625012139fde1179f5d5d033f4ce3cfc692f144", func := "tachograph/tachographlaw08.SetsOrders", spec := "setsOrders", recurses := true, apart := false, narrowed := true }
def SetsOrdersUptoSaid : Prop := setsOrdersUptoRow.holds Try.pinned (OpenSpec.upto setsOrdersSpec)

/-- 'tachographlaw08.SetsAgain', WHERE WHAT IT READS IS OF BULK AT MOST 1048576: true; the input reads as it did. -/
def setsAgainUptoRow : OpenClaim := { program := "ytjpighkbfldloaa", sum := "bab7e80f69297f2adaacaae7f625012139fde1179f5d5d033f4ce3cfc692f144", func := "tachograph/tachographlaw08.SetsAgain", spec := "setsAgain", recurses := true, apart := false, narrowed := true }
def SetsAgainUptoSaid : Prop := setsAgainUptoRow.holds Try.pinned (OpenSpec.upto setsAgainSpec)

/-- 'tachographlaw08.SetsSizes', WHERE WHAT IT READS IS OF BULK AT MOST 1048576: true; the input reads as it did. -/
def setsSizesUptoRow : OpenClaim := { program := "ytjpighkbfldloaa", sum := "bab7e80f69297f2adaacaae7f625012139fde1179f5d5d033f4ce3cfc692f144", func := "tachograph/tachographlaw08.SetsSizes", spec := "setsSizes", recurses := true, apart := false, narrowed := true }
def SetsSizesUptoSaid : Prop := setsSizesUptoRow.holds Try.pinned (OpenSpec.upto setsSizesSpec)

/-- 'tachographlaw08.SetsMany', WHERE WHAT IT READS IS OF BULK AT MOST 1048576: true; the input reads as it did. -/
def setsManyUptoRow : OpenClaim := { program := "ytjpighkbfldloaa", sum := "bab7e80f69297f2adaacaae7f625012139fde1179f5d5d033f4ce3cfc692f144", func := "tachograph/tachographlaw08.SetsMany", spec := "setsMany", recurses := true, apart := false, narrowed := true }
def SetsManyUptoSaid : Prop := setsManyUptoRow.holds Try.pinned (OpenSpec.upto setsManySpec)

end Rows
end Go.Proofs.Ytjpighkbfldloaa
