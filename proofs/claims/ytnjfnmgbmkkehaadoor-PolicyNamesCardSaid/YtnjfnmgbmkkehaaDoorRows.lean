/-
  NARROWER THAN 'FOR EVERY INPUT', by the rows' own cells (each row's printed sentence says how): PolicyTells: laid · PolicyMerges: laid · PolicyOrders: laid · PolicyCaps: laid · PolicyNames: laid · PolicyTwice: laid · PolicyRises: laid.
  DERIVED. THE GIVEN ROWS OF THIS SEAT. 7 by the template 'for every input the law returns true; each argument reads behind the call as it read before'; 0 by the template 'total and deterministic' (their statements: YtnjfnmgbmkkehaaDoorTotals.lean).
  GIVEN WITH THE SEED: the statements are not yours to turn. If you find one false, say at which input.
  Laid BY PROGRAM, IN A SANDBOX (cutbox-rows.mjs): the forced cells as the released guide's own fill.sh prints them over the translation 5e894698238caaeb… (all of the seat's roots in one cut). By AI agents, Wed Nov 11 2026. No macro, syntax, notation, axiom, sorry.
-/
import Derived.Test.YtnjfnmgbmkkehaaDoorChecked
import GoSem.Claim
import GoSem.ClaimJoined
import GoSem.ClaimMapViews
import Derived.JoinedTies
import Derived.KernelRfl
namespace Go.Proofs.YtnjfnmgbmkkehaaDoor
/- THE CELL 'sum', in the pinned program and in every row, IS THE sha256 OF THE DUMP (.gsa) THAT YtnjfnmgbmkkehaaDoorProg.lean LOADS. Nothing in Lean hashes anything: it is a label: what it is worth is what the hold of that sum in a sandbox is worth. -/
noncomputable def Tryd.pinned : Pinned := { name := "ytnjfnmgbmkkehaadoor", sum := "5e894698238caaebd04d716f162d5a72b6ff9b871d39cc9c4e3e2bb456ab9218", checked := Tryd.checked }
namespace Rows
def none {H : Type} : Left H := { results := [], args := [] }

/- WHAT THE LISTED PACKAGE-LEVEL VARIABLES READ AS WHEN THE CALL BEGINS. Each datum BY PROGRAM (the guide's laid-datum.mjs) off the statement by which the dump's own 'gosem.cut.vars' lays the variable. In a bare row this is a premise. The card (YtnjfnmgbmkkehaaDoorCards.lean) ties it to the program's text. -/
def laid_tachograph_policy_names {H : Type} : DataW H := .agg [.lit (.string []), .lit (.string [66, 76, 79, 67, 75]), .lit (.string [70, 73, 82, 83, 84]), .lit (.string [76, 65, 83, 84]), .lit (.string [77, 73, 78]), .lit (.string [77, 65, 88]), .lit (.string [83, 85, 77])]

/-- 'tachographlaw03.PolicyTells': WHATEVER THE INPUT: true; the input reads as it did. -/
def policyTellsSpec : ChangeSpec := { name := "policyTells", fn := fun _ => fun
  | [d1, d2] => { results := [.lit (.bool true)], args := [d1, d2] }
  | _ => none }
def policyTellsRow : OpenClaim := { program := "ytnjfnmgbmkkehaadoor", sum := "5e894698238caaebd04d716f162d5a72b6ff9b871d39cc9c4e3e2bb456ab9218", func := "tachograph/tachographlaw03.PolicyTells", spec := "policyTells", named := ["tachograph/policy.names"], apart := false, laid := [("tachograph/policy.names", laid_tachograph_policy_names)] }
def PolicyTellsSaid : Prop := policyTellsRow.holds Tryd.pinned (OpenSpec.ofChange policyTellsSpec)

/-- ITS FALSE NEIGHBOUR: 'it returns false'. Refute it at one input. -/
def policyTellsWrong : ChangeSpec := { name := "policyTells", fn := fun _ => fun
  | [d1, d2] => { results := [.lit (.bool false)], args := [d1, d2] }
  | _ => none }
def PolicyTellsWrongFalsely : Prop := policyTellsRow.holds Tryd.pinned (OpenSpec.ofChange policyTellsWrong)

/-- 'tachographlaw03.PolicyMerges': WHATEVER THE INPUT: true; the input reads as it did. -/
def policyMergesSpec : ChangeSpec := { name := "policyMerges", fn := fun _ => fun
  | [d1, d2, d3] => { results := [.lit (.bool true)], args := [d1, d2, d3] }
  | _ => none }
def policyMergesRow : OpenClaim := { program := "ytnjfnmgbmkkehaadoor", sum := "5e894698238caaebd04d716f162d5a72b6ff9b871d39cc9c4e3e2bb456ab9218", func := "tachograph/tachographlaw03.PolicyMerges", spec := "policyMerges", named := ["tachograph/policy.names"], apart := false, laid := [("tachograph/policy.names", laid_tachograph_policy_names)] }
def PolicyMergesSaid : Prop := policyMergesRow.holds Tryd.pinned (OpenSpec.ofChange policyMergesSpec)

/-- ITS FALSE NEIGHBOUR: 'it returns false'. Refute it at one input. -/
def policyMergesWrong : ChangeSpec := { name := "policyMerges", fn := fun _ => fun
  | [d1, d2, d3] => { results := [.lit (.bool false)], args := [d1, d2, d3] }
  | _ => none }
def PolicyMergesWrongFalsely : Prop := policyMergesRow.holds Tryd.pinned (OpenSpec.ofChange policyMergesWrong)

/-- 'tachographlaw03.PolicyOrders': WHATEVER THE INPUT: true; the input reads as it did. -/
def policyOrdersSpec : ChangeSpec := { name := "policyOrders", fn := fun _ => fun
  | [d1, d2, d3] => { results := [.lit (.bool true)], args := [d1, d2, d3] }
  | _ => none }
def policyOrdersRow : OpenClaim := { program := "ytnjfnmgbmkkehaadoor", sum := "5e894698238caaebd04d716f162d5a72b6ff9b871d39cc9c4e3e2bb456ab9218", func := "tachograph/tachographlaw03.PolicyOrders", spec := "policyOrders", named := ["tachograph/policy.names"], apart := false, laid := [("tachograph/policy.names", laid_tachograph_policy_names)] }
def PolicyOrdersSaid : Prop := policyOrdersRow.holds Tryd.pinned (OpenSpec.ofChange policyOrdersSpec)

/-- ITS FALSE NEIGHBOUR: 'it returns false'. Refute it at one input. -/
def policyOrdersWrong : ChangeSpec := { name := "policyOrders", fn := fun _ => fun
  | [d1, d2, d3] => { results := [.lit (.bool false)], args := [d1, d2, d3] }
  | _ => none }
def PolicyOrdersWrongFalsely : Prop := policyOrdersRow.holds Tryd.pinned (OpenSpec.ofChange policyOrdersWrong)

/-- 'tachographlaw03.PolicyCaps': WHATEVER THE INPUT: true; the input reads as it did. -/
def policyCapsSpec : ChangeSpec := { name := "policyCaps", fn := fun _ => fun
  | [d1, d2] => { results := [.lit (.bool true)], args := [d1, d2] }
  | _ => none }
def policyCapsRow : OpenClaim := { program := "ytnjfnmgbmkkehaadoor", sum := "5e894698238caaebd04d716f162d5a72b6ff9b871d39cc9c4e3e2bb456ab9218", func := "tachograph/tachographlaw03.PolicyCaps", spec := "policyCaps", named := ["tachograph/policy.names"], apart := false, laid := [("tachograph/policy.names", laid_tachograph_policy_names)] }
def PolicyCapsSaid : Prop := policyCapsRow.holds Tryd.pinned (OpenSpec.ofChange policyCapsSpec)

/-- ITS FALSE NEIGHBOUR: 'it returns false'. Refute it at one input. -/
def policyCapsWrong : ChangeSpec := { name := "policyCaps", fn := fun _ => fun
  | [d1, d2] => { results := [.lit (.bool false)], args := [d1, d2] }
  | _ => none }
def PolicyCapsWrongFalsely : Prop := policyCapsRow.holds Tryd.pinned (OpenSpec.ofChange policyCapsWrong)

/-- 'tachographlaw03.PolicyNames': WHATEVER THE INPUT: true; the input reads as it did. -/
def policyNamesSpec : ChangeSpec := { name := "policyNames", fn := fun _ => fun
  | [d1, d2, d3] => { results := [.lit (.bool true)], args := [d1, d2, d3] }
  | _ => none }
def policyNamesRow : OpenClaim := { program := "ytnjfnmgbmkkehaadoor", sum := "5e894698238caaebd04d716f162d5a72b6ff9b871d39cc9c4e3e2bb456ab9218", func := "tachograph/tachographlaw03.PolicyNames", spec := "policyNames", named := ["tachograph/policy.names"], apart := false, laid := [("tachograph/policy.names", laid_tachograph_policy_names)] }
def PolicyNamesSaid : Prop := policyNamesRow.holds Tryd.pinned (OpenSpec.ofChange policyNamesSpec)

/-- ITS FALSE NEIGHBOUR: 'it returns false'. Refute it at one input. -/
def policyNamesWrong : ChangeSpec := { name := "policyNames", fn := fun _ => fun
  | [d1, d2, d3] => { results := [.lit (.bool false)], args := [d1, d2, d3] }
  | _ => none }
def PolicyNamesWrongFalsely : Prop := policyNamesRow.holds Tryd.pinned (OpenSpec.ofChange policyNamesWrong)

/-- 'tachographlaw03.PolicyTwice': WHATEVER THE INPUT: true; the input reads as it did. -/
def policyTwiceSpec : ChangeSpec := { name := "policyTwice", fn := fun _ => fun
  | [d1, d2] => { results := [.lit (.bool true)], args := [d1, d2] }
  | _ => none }
def policyTwiceRow : OpenClaim := { program := "ytnjfnmgbmkkehaadoor", sum := "5e894698238caaebd04d716f162d5a72b6ff9b871d39cc9c4e3e2bb456ab9218", func := "tachograph/tachographlaw03.PolicyTwice", spec := "policyTwice", named := ["tachograph/policy.names"], apart := false, laid := [("tachograph/policy.names", laid_tachograph_policy_names)] }
def PolicyTwiceSaid : Prop := policyTwiceRow.holds Tryd.pinned (OpenSpec.ofChange policyTwiceSpec)

/-- ITS FALSE NEIGHBOUR: 'it returns false'. Refute it at one input. -/
def policyTwiceWrong : ChangeSpec := { name := "policyTwice", fn := fun _ => fun
  | [d1, d2] => { results := [.lit (.bool false)], args := [d1, d2] }
  | _ => none }
def PolicyTwiceWrongFalsely : Prop := policyTwiceRow.holds Tryd.pinned (OpenSpec.ofChange policyTwiceWrong)

/-- 'tachographlaw03.PolicyRises': WHATEVER THE INPUT: true; the input reads as it did. -/
def policyRisesSpec : ChangeSpec := { name := "policyRises", fn := fun _ => fun
  | [d1, d2, d3] => { results := [.lit (.bool true)], args := [d1, d2, d3] }
  | _ => none }
def policyRisesRow : OpenClaim := { program := "ytnjfnmgbmkkehaadoor", sum := "5e894698238caaebd04d716f162d5a72b6ff9b871d39cc9c4e3e2bb456ab9218", func := "tachograph/tachographlaw03.PolicyRises", spec := "policyRises", named := ["tachograph/policy.names"], apart := false, laid := [("tachograph/policy.names", laid_tachograph_policy_names)] }
def PolicyRisesSaid : Prop := policyRisesRow.holds Tryd.pinned (OpenSpec.ofChange policyRisesSpec)

/-- ITS FALSE NEIGHBOUR: 'it returns false'. Refute it at one input. -/
def policyRisesWrong : ChangeSpec := { name := "policyRises", fn := fun _ => fun
  | [d1, d2, d3] => { results := [.lit (.bool false)], args := [d1, d2, d3] }
  | _ => none }
def PolicyRisesWrongFalsely : Prop := policyRisesRow.holds Tryd.pinned (OpenSpec.ofChange policyRisesWrong)

/- THE SECOND FORM. 'bulk': how many values and letters a reading holds, each counted each time it is reached (what is shared counts as often as it is met; a slice's spare places count too). A statement '..UptoSaid' is the law's where the arguments, and the package variables that the reading takes, are together of bulk at most 1048576: NARROWER than '..Said'. Prove '..Said' where nothing that the law and all that it calls make is longer than what came in: it says more and counts as full. Else prove '..UptoSaid'. A law counts once. -/
mutual
def uptoBulk {H : Type} : DataW H → Nat
  | .lit (.string bytes) => bytes.length + 1
  | .lit _ => 1
  | .nil => 1
  | .ptr d => uptoBulk d + 1
  | .slice elems spare => uptoBulkAll elems + uptoBulkAll spare + 1
  | .agg parts => uptoBulkAll parts + 1
  | .iface _ d => uptoBulk d + 1
  | .map entries => uptoBulkEntries entries + 1
  | .held _ => 1
def uptoBulkAll {H : Type} : List (DataW H) → Nat
  | [] => 0
  | d :: r => uptoBulk d + uptoBulkAll r
def uptoBulkEntries {H : Type} : List (Lit × DataW H) → Nat
  | [] => 0
  | x :: r => uptoBulkEntry x + uptoBulkEntries r
def uptoBulkEntry {H : Type} : Lit × DataW H → Nat
  | (.string bytes, d) => bytes.length + uptoBulk d + 1
  | (_, d) => uptoBulk d + 1
 end
def uptoSmall : (H : Type) → List (DataW H) → Bool := fun _ ds => decide (uptoBulkAll ds ≤ 1048576)
def OpenSpec.upto (s : _root_.Go.ChangeSpec) : _root_.Go.OpenSpec := { _root_.Go.OpenSpec.ofChange s with cond := some uptoSmall }

/-- 'tachographlaw03.PolicyTells', WHERE WHAT IT READS IS OF BULK AT MOST 1048576: true; the input reads as it did. -/
def policyTellsUptoRow : OpenClaim := { program := "ytnjfnmgbmkkehaadoor", sum := "5e894698238caaebd04d716f162d5a72b6ff9b871d39cc9c4e3e2bb456ab9218", func := "tachograph/tachographlaw03.PolicyTells", spec := "policyTells", named := ["tachograph/policy.names"], apart := false, laid := [("tachograph/policy.names", laid_tachograph_policy_names)], narrowed := true }
def PolicyTellsUptoSaid : Prop := policyTellsUptoRow.holds Tryd.pinned (OpenSpec.upto policyTellsSpec)

/-- 'tachographlaw03.PolicyMerges', WHERE WHAT IT READS IS OF BULK AT MOST 1048576: true; the input reads as it did. -/
def policyMergesUptoRow : OpenClaim := { program := "ytnjfnmgbmkkehaadoor", sum := "5e894698238caaebd04d716f162d5a72b6ff9b871d39cc9c4e3e2bb456ab9218", func := "tachograph/tachographlaw03.PolicyMerges", spec := "policyMerges", named := ["tachograph/policy.names"], apart := false, laid := [("tachograph/policy.names", laid_tachograph_policy_names)], narrowed := true }
def PolicyMergesUptoSaid : Prop := policyMergesUptoRow.holds Tryd.pinned (OpenSpec.upto policyMergesSpec)

/-- 'tachographlaw03.PolicyOrders', WHERE WHAT IT READS IS OF BULK AT MOST 1048576: true; the input reads as it did. -/
def policyOrdersUptoRow : OpenClaim := { program := "ytnjfnmgbmkkehaadoor", sum := "5e894698238caaebd04d716f162d5a72b6ff9b871d39cc9c4e3e2bb456ab9218", func := "tachograph/tachographlaw03.PolicyOrders", spec := "policyOrders", named := ["tachograph/policy.names"], apart := false, laid := [("tachograph/policy.names", laid_tachograph_policy_names)], narrowed := true }
def PolicyOrdersUptoSaid : Prop := policyOrdersUptoRow.holds Tryd.pinned (OpenSpec.upto policyOrdersSpec)

/-- 'tachographlaw03.PolicyCaps', WHERE WHAT IT READS IS OF BULK AT MOST 1048576: true; the input reads as it did. -/
def policyCapsUptoRow : OpenClaim := { program := "ytnjfnmgbmkkehaadoor", sum := "5e894698238caaebd04d716f162d5a72b6ff9b871d39cc9c4e3e2bb456ab9218", func := "tachograph/tachographlaw03.PolicyCaps", spec := "policyCaps", named := ["tachograph/policy.names"], apart := false, laid := [("tachograph/policy.names", laid_tachograph_policy_names)], narrowed := true }
def PolicyCapsUptoSaid : Prop := policyCapsUptoRow.holds Tryd.pinned (OpenSpec.upto policyCapsSpec)

/-- 'tachographlaw03.PolicyNames', WHERE WHAT IT READS IS OF BULK AT MOST 1048576: true; the input reads as it did. -/
def policyNamesUptoRow : OpenClaim := { program := "ytnjfnmgbmkkehaadoor", sum := "5e894698238caaebd04d716f162d5a72b6ff9b871d39cc9c4e3e2bb456ab9218", func := "tachograph/tachographlaw03.PolicyNames", spec := "policyNames", named := ["tachograph/policy.names"], apart := false, laid := [("tachograph/policy.names", laid_tachograph_policy_names)], narrowed := true }
def PolicyNamesUptoSaid : Prop := policyNamesUptoRow.holds Tryd.pinned (OpenSpec.upto policyNamesSpec)

/-- 'tachographlaw03.PolicyTwice', WHERE WHAT IT READS IS OF BULK AT MOST 1048576: true; the input reads as it did. -/
def policyTwiceUptoRow : OpenClaim := { program := "ytnjfnmgbmkkehaadoor", sum := "5e894698238caaebd04d716f162d5a72b6ff9b871d39cc9c4e3e2bb456ab9218", func := "tachograph/tachographlaw03.PolicyTwice", spec := "policyTwice", named := ["tachograph/policy.names"], apart := false, laid := [("tachograph/policy.names", laid_tachograph_policy_names)], narrowed := true }
def PolicyTwiceUptoSaid : Prop := policyTwiceUptoRow.holds Tryd.pinned (OpenSpec.upto policyTwiceSpec)

/-- 'tachographlaw03.PolicyRises', WHERE WHAT IT READS IS OF BULK AT MOST 1048576: true; the input reads as it did. -/
def policyRisesUptoRow : OpenClaim := { program := "ytnjfnmgbmkkehaadoor", sum := "5e894698238caaebd04d716f162d5a72b6ff9b871d39cc9c4e3e2bb456ab9218", func := "tachograph/tachographlaw03.PolicyRises", spec := "policyRises", named := ["tachograph/policy.names"], apart := false, laid := [("tachograph/policy.names", laid_tachograph_policy_names)], narrowed := true }
def PolicyRisesUptoSaid : Prop := policyRisesUptoRow.holds Tryd.pinned (OpenSpec.upto policyRisesSpec)

end Rows
end Go.Proofs.YtnjfnmgbmkkehaaDoor
