/-
  DERIVED. GIVEN WITH THE SEED: THE CARDS: each row of YtnjfnmgbmkkehaaDoorRows.lean that lists a variable, with what it lists TIED to the program's text (the seventh form; the later family's looks); each row that meets fmt, with fmt's text TOLD by the authors' own Lean function (tested against real Go, not proved from fmt's source: count such statements apart). THE CARD IS WHAT COUNTS. Prove the row's statement (the work); the ties are given (YtnjfnmgbmkkehaaDoorTie.lean); close each card by the builder's one call (the guide's Derived/Test/ToyasCard.lean, 'card_holds'). Laid BY PROGRAM, IN A SANDBOX (cutbox-door.mjs). By AI agents, Wed Nov 11 2026. No macro, syntax, notation, axiom, sorry.
-/
import Derived.Test.YtnjfnmgbmkkehaaDoorRows
import GoSem.ClaimSeven
namespace Go.Proofs.YtnjfnmgbmkkehaaDoor
namespace Rows

/-- THE TIED CARD OF 'tachographlaw03.PolicyTells'. -/
def policyTellsCard : Claim7 := { stood := { row := policyTellsRow, standIns := [], harness := (true, "1844c9c7730bebc3b99964f36c5ff392ce3b19b66310d67ba65ff8264b2fa01c"), looks := false }, kinds := [], alts := [], laidByText := true, laidKinds := [.data], laidTests := true, laidLooks := .later }
def PolicyTellsCardSaid : Prop := Claim7.holds Tryd.pinned (.plain (OpenSpec.ofChange policyTellsSpec)) policyTellsCard

/-- THE TIED CARD OF 'tachographlaw03.PolicyMerges'. -/
def policyMergesCard : Claim7 := { stood := { row := policyMergesRow, standIns := [], harness := (true, "1844c9c7730bebc3b99964f36c5ff392ce3b19b66310d67ba65ff8264b2fa01c"), looks := false }, kinds := [], alts := [], laidByText := true, laidKinds := [.data], laidTests := true, laidLooks := .later }
def PolicyMergesCardSaid : Prop := Claim7.holds Tryd.pinned (.plain (OpenSpec.ofChange policyMergesSpec)) policyMergesCard

/-- THE TIED CARD OF 'tachographlaw03.PolicyOrders'. -/
def policyOrdersCard : Claim7 := { stood := { row := policyOrdersRow, standIns := [], harness := (true, "1844c9c7730bebc3b99964f36c5ff392ce3b19b66310d67ba65ff8264b2fa01c"), looks := false }, kinds := [], alts := [], laidByText := true, laidKinds := [.data], laidTests := true, laidLooks := .later }
def PolicyOrdersCardSaid : Prop := Claim7.holds Tryd.pinned (.plain (OpenSpec.ofChange policyOrdersSpec)) policyOrdersCard

/-- THE TIED CARD OF 'tachographlaw03.PolicyCaps'. -/
def policyCapsCard : Claim7 := { stood := { row := policyCapsRow, standIns := [], harness := (true, "1844c9c7730bebc3b99964f36c5ff392ce3b19b66310d67ba65ff8264b2fa01c"), looks := false }, kinds := [], alts := [], laidByText := true, laidKinds := [.data], laidTests := true, laidLooks := .later }
def PolicyCapsCardSaid : Prop := Claim7.holds Tryd.pinned (.plain (OpenSpec.ofChange policyCapsSpec)) policyCapsCard

/-- THE TIED CARD OF 'tachographlaw03.PolicyNames'. -/
def policyNamesCard : Claim7 := { stood := { row := policyNamesRow, standIns := [], harness := (true, "1844c9c7730bebc3b99964f36c5ff392ce3b19b66310d67ba65ff8264b2fa01c"), looks := false }, kinds := [], alts := [], laidByText := true, laidKinds := [.data], laidTests := true, laidLooks := .later }
def PolicyNamesCardSaid : Prop := Claim7.holds Tryd.pinned (.plain (OpenSpec.ofChange policyNamesSpec)) policyNamesCard

/-- THE TIED CARD OF 'tachographlaw03.PolicyTwice'. -/
def policyTwiceCard : Claim7 := { stood := { row := policyTwiceRow, standIns := [], harness := (true, "1844c9c7730bebc3b99964f36c5ff392ce3b19b66310d67ba65ff8264b2fa01c"), looks := false }, kinds := [], alts := [], laidByText := true, laidKinds := [.data], laidTests := true, laidLooks := .later }
def PolicyTwiceCardSaid : Prop := Claim7.holds Tryd.pinned (.plain (OpenSpec.ofChange policyTwiceSpec)) policyTwiceCard

/-- THE TIED CARD OF 'tachographlaw03.PolicyRises'. -/
def policyRisesCard : Claim7 := { stood := { row := policyRisesRow, standIns := [], harness := (true, "1844c9c7730bebc3b99964f36c5ff392ce3b19b66310d67ba65ff8264b2fa01c"), looks := false }, kinds := [], alts := [], laidByText := true, laidKinds := [.data], laidTests := true, laidLooks := .later }
def PolicyRisesCardSaid : Prop := Claim7.holds Tryd.pinned (.plain (OpenSpec.ofChange policyRisesSpec)) policyRisesCard

/-- THE SECOND FORM's CARD OF 'tachographlaw03.PolicyTells'. -/
def policyTellsUptoCard : Claim7 := { stood := { row := policyTellsUptoRow, standIns := [], harness := (true, "1844c9c7730bebc3b99964f36c5ff392ce3b19b66310d67ba65ff8264b2fa01c"), looks := false }, kinds := [], alts := [], laidByText := true, laidKinds := [.data], laidTests := true, laidLooks := .later }
def PolicyTellsUptoCardSaid : Prop := Claim7.holds Tryd.pinned (.plain (OpenSpec.upto policyTellsSpec)) policyTellsUptoCard

/-- THE SECOND FORM's CARD OF 'tachographlaw03.PolicyMerges'. -/
def policyMergesUptoCard : Claim7 := { stood := { row := policyMergesUptoRow, standIns := [], harness := (true, "1844c9c7730bebc3b99964f36c5ff392ce3b19b66310d67ba65ff8264b2fa01c"), looks := false }, kinds := [], alts := [], laidByText := true, laidKinds := [.data], laidTests := true, laidLooks := .later }
def PolicyMergesUptoCardSaid : Prop := Claim7.holds Tryd.pinned (.plain (OpenSpec.upto policyMergesSpec)) policyMergesUptoCard

/-- THE SECOND FORM's CARD OF 'tachographlaw03.PolicyOrders'. -/
def policyOrdersUptoCard : Claim7 := { stood := { row := policyOrdersUptoRow, standIns := [], harness := (true, "1844c9c7730bebc3b99964f36c5ff392ce3b19b66310d67ba65ff8264b2fa01c"), looks := false }, kinds := [], alts := [], laidByText := true, laidKinds := [.data], laidTests := true, laidLooks := .later }
def PolicyOrdersUptoCardSaid : Prop := Claim7.holds Tryd.pinned (.plain (OpenSpec.upto policyOrdersSpec)) policyOrdersUptoCard

/-- THE SECOND FORM's CARD OF 'tachographlaw03.PolicyCaps'. -/
def policyCapsUptoCard : Claim7 := { stood := { row := policyCapsUptoRow, standIns := [], harness := (true, "1844c9c7730bebc3b99964f36c5ff392ce3b19b66310d67ba65ff8264b2fa01c"), looks := false }, kinds := [], alts := [], laidByText := true, laidKinds := [.data], laidTests := true, laidLooks := .later }
def PolicyCapsUptoCardSaid : Prop := Claim7.holds Tryd.pinned (.plain (OpenSpec.upto policyCapsSpec)) policyCapsUptoCard

/-- THE SECOND FORM's CARD OF 'tachographlaw03.PolicyNames'. -/
def policyNamesUptoCard : Claim7 := { stood := { row := policyNamesUptoRow, standIns := [], harness := (true, "1844c9c7730bebc3b99964f36c5ff392ce3b19b66310d67ba65ff8264b2fa01c"), looks := false }, kinds := [], alts := [], laidByText := true, laidKinds := [.data], laidTests := true, laidLooks := .later }
def PolicyNamesUptoCardSaid : Prop := Claim7.holds Tryd.pinned (.plain (OpenSpec.upto policyNamesSpec)) policyNamesUptoCard

/-- THE SECOND FORM's CARD OF 'tachographlaw03.PolicyTwice'. -/
def policyTwiceUptoCard : Claim7 := { stood := { row := policyTwiceUptoRow, standIns := [], harness := (true, "1844c9c7730bebc3b99964f36c5ff392ce3b19b66310d67ba65ff8264b2fa01c"), looks := false }, kinds := [], alts := [], laidByText := true, laidKinds := [.data], laidTests := true, laidLooks := .later }
def PolicyTwiceUptoCardSaid : Prop := Claim7.holds Tryd.pinned (.plain (OpenSpec.upto policyTwiceSpec)) policyTwiceUptoCard

/-- THE SECOND FORM's CARD OF 'tachographlaw03.PolicyRises'. -/
def policyRisesUptoCard : Claim7 := { stood := { row := policyRisesUptoRow, standIns := [], harness := (true, "1844c9c7730bebc3b99964f36c5ff392ce3b19b66310d67ba65ff8264b2fa01c"), looks := false }, kinds := [], alts := [], laidByText := true, laidKinds := [.data], laidTests := true, laidLooks := .later }
def PolicyRisesUptoCardSaid : Prop := Claim7.holds Tryd.pinned (.plain (OpenSpec.upto policyRisesSpec)) policyRisesUptoCard
end Rows
end Go.Proofs.YtnjfnmgbmkkehaaDoor
