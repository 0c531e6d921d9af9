/-
  DERIVED. GIVEN WITH THE SEED: THE CARDS: each row of YtojnalpmibpchaaDoorRows.lean that lists a variable, with what it lists TIED to the program's text (the seventh form; the later family's looks); each row that meets fmt, with fmt's text TOLD by the authors' own Lean function (tested against real Go, not proved from fmt's source: count such statements apart). THE CARD IS WHAT COUNTS. Prove the row's statement (the work); the ties are given (YtojnalpmibpchaaDoorTie.lean); close each card by the builder's one call (the guide's Derived/Test/ToyasCard.lean, 'card_holds'). Laid BY PROGRAM, IN A SANDBOX (cutbox-door.mjs). By AI agents, Wed Nov 11 2026. No macro, syntax, notation, axiom, sorry.
-/
import Derived.Test.YtojnalpmibpchaaDoorRows
import GoSem.ClaimSeven
namespace Go.Proofs.YtojnalpmibpchaaDoor
namespace Rows

/-- THE TIED CARD OF 'tachographlaw06.AggTells'. -/
def aggTellsCard : Claim7 := { stood := { row := aggTellsRow, standIns := [], harness := (true, "d16af4f04911f97ee4925a205e2e6ddd8ca803d52dc66ff230b5ef3e883ffd82"), looks := false }, kinds := [], alts := [], laidByText := true, laidKinds := [.data, .data, .data, .data, .pinned, .pinned], laidTests := true, laidLooks := .later }
def AggTellsCardSaid : Prop := Claim7.holds Tryd.pinned (.plain (OpenSpec.ofChange aggTellsSpec)) aggTellsCard

/-- THE SECOND FORM's CARD OF 'tachographlaw06.AggTells'. -/
def aggTellsUptoCard : Claim7 := { stood := { row := aggTellsUptoRow, standIns := [], harness := (true, "d16af4f04911f97ee4925a205e2e6ddd8ca803d52dc66ff230b5ef3e883ffd82"), looks := false }, kinds := [], alts := [], laidByText := true, laidKinds := [.data, .data, .data, .data, .pinned, .pinned], laidTests := true, laidLooks := .later }
def AggTellsUptoCardSaid : Prop := Claim7.holds Tryd.pinned (.plain (OpenSpec.upto aggTellsSpec)) aggTellsUptoCard
end Rows
end Go.Proofs.YtojnalpmibpchaaDoor
