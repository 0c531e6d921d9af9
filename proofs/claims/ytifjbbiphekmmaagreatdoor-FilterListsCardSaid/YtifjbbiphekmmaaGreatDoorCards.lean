/-
  DERIVED. GIVEN WITH THE SEED: THE CARDS: each row of YtifjbbiphekmmaaGreatDoorRows.lean that lists a variable, with what it lists TIED to the program's text (the seventh form; the later family's looks); each row that meets fmt, with fmt's text TOLD by the authors' own Lean function (tested against real Go, not proved from fmt's source: count such statements apart). THE CARD IS WHAT COUNTS. Prove the row's statement (the work); the ties are given (YtifjbbiphekmmaaGreatDoorTie.lean); close each card by the builder's one call (the guide's Derived/Test/ToyasCard.lean, 'card_holds'). Laid BY PROGRAM, IN A SANDBOX (cutbox-door.mjs). By AI agents, Wed Nov 11 2026. No macro, syntax, notation, axiom, sorry.
-/
import Derived.Test.YtifjbbiphekmmaaGreatDoorRows
import GoSem.ClaimSeven
namespace Go.Proofs.YtifjbbiphekmmaaGreatDoor
namespace Rows

/-- THE TIED CARD OF 'tachographlaw10.FilterTells'. -/
def filterTellsCard : Claim7 := { stood := { row := filterTellsRow, standIns := [], harness := (true, "d2d178fa72476064f083a0afb8662cedaeafc5e364fb0fd46d35771e71bc67cf"), looks := false }, kinds := [], alts := [], laidByText := true, laidKinds := [.data, .pinned], laidTests := true, laidLooks := .later }
def FilterTellsCardSaid : Prop := Claim7.holds Tryz.pinned (.plain (OpenSpec.ofChange filterTellsSpec)) filterTellsCard

/-- THE TIED CARD OF 'tachographlaw10.FilterReads'. -/
def filterReadsCard : Claim7 := { stood := { row := filterReadsRow, standIns := [], harness := (true, "d2d178fa72476064f083a0afb8662cedaeafc5e364fb0fd46d35771e71bc67cf"), looks := false }, kinds := [], alts := [], laidByText := true, laidKinds := [.data, .pinned], laidTests := true, laidLooks := .later }
def FilterReadsCardSaid : Prop := Claim7.holds Tryz.pinned (.plain (OpenSpec.ofChange filterReadsSpec)) filterReadsCard

/-- THE TIED CARD OF 'tachographlaw10.FilterFinds'. -/
def filterFindsCard : Claim7 := { stood := { row := filterFindsRow, standIns := [], harness := (true, "d2d178fa72476064f083a0afb8662cedaeafc5e364fb0fd46d35771e71bc67cf"), looks := false }, kinds := [], alts := [], laidByText := true, laidKinds := [.data, .pinned], laidTests := true, laidLooks := .later }
def FilterFindsCardSaid : Prop := Claim7.holds Tryz.pinned (.plain (OpenSpec.ofChange filterFindsSpec)) filterFindsCard

/-- THE TIED CARD OF 'tachographlaw10.FilterBack'. -/
def filterBackCard : Claim7 := { stood := { row := filterBackRow, standIns := [], harness := (true, "d2d178fa72476064f083a0afb8662cedaeafc5e364fb0fd46d35771e71bc67cf"), looks := false }, kinds := [], alts := [], laidByText := true, laidKinds := [.data, .pinned], laidTests := true, laidLooks := .later }
def FilterBackCardSaid : Prop := Claim7.holds Tryz.pinned (.plain (OpenSpec.ofChange filterBackSpec)) filterBackCard

/-- THE TIED CARD OF 'tachographlaw10.FilterNots'. -/
def filterNotsCard : Claim7 := { stood := { row := filterNotsRow, standIns := [], harness := (true, "d2d178fa72476064f083a0afb8662cedaeafc5e364fb0fd46d35771e71bc67cf"), looks := false }, kinds := [], alts := [], laidByText := true, laidKinds := [.data, .pinned], laidTests := true, laidLooks := .later }
def FilterNotsCardSaid : Prop := Claim7.holds Tryz.pinned (.plain (OpenSpec.ofChange filterNotsSpec)) filterNotsCard

/-- THE TIED CARD OF 'tachographlaw10.FilterLists'. -/
def filterListsCard : Claim7 := { stood := { row := filterListsRow, standIns := [], harness := (true, "d2d178fa72476064f083a0afb8662cedaeafc5e364fb0fd46d35771e71bc67cf"), looks := false }, kinds := [], alts := [], laidByText := true, laidKinds := [.data, .pinned], laidTests := true, laidLooks := .later }
def FilterListsCardSaid : Prop := Claim7.holds Tryz.pinned (.plain (OpenSpec.ofChange filterListsSpec)) filterListsCard

/-- THE SECOND FORM's CARD OF 'tachographlaw10.FilterTells'. -/
def filterTellsUptoCard : Claim7 := { stood := { row := filterTellsUptoRow, standIns := [], harness := (true, "d2d178fa72476064f083a0afb8662cedaeafc5e364fb0fd46d35771e71bc67cf"), looks := false }, kinds := [], alts := [], laidByText := true, laidKinds := [.data, .pinned], laidTests := true, laidLooks := .later }
def FilterTellsUptoCardSaid : Prop := Claim7.holds Tryz.pinned (.plain (OpenSpec.upto filterTellsSpec)) filterTellsUptoCard

/-- THE SECOND FORM's CARD OF 'tachographlaw10.FilterReads'. -/
def filterReadsUptoCard : Claim7 := { stood := { row := filterReadsUptoRow, standIns := [], harness := (true, "d2d178fa72476064f083a0afb8662cedaeafc5e364fb0fd46d35771e71bc67cf"), looks := false }, kinds := [], alts := [], laidByText := true, laidKinds := [.data, .pinned], laidTests := true, laidLooks := .later }
def FilterReadsUptoCardSaid : Prop := Claim7.holds Tryz.pinned (.plain (OpenSpec.upto filterReadsSpec)) filterReadsUptoCard

/-- THE SECOND FORM's CARD OF 'tachographlaw10.FilterFinds'. -/
def filterFindsUptoCard : Claim7 := { stood := { row := filterFindsUptoRow, standIns := [], harness := (true, "d2d178fa72476064f083a0afb8662cedaeafc5e364fb0fd46d35771e71bc67cf"), looks := false }, kinds := [], alts := [], laidByText := true, laidKinds := [.data, .pinned], laidTests := true, laidLooks := .later }
def FilterFindsUptoCardSaid : Prop := Claim7.holds Tryz.pinned (.plain (OpenSpec.upto filterFindsSpec)) filterFindsUptoCard

/-- THE SECOND FORM's CARD OF 'tachographlaw10.FilterBack'. -/
def filterBackUptoCard : Claim7 := { stood := { row := filterBackUptoRow, standIns := [], harness := (true, "d2d178fa72476064f083a0afb8662cedaeafc5e364fb0fd46d35771e71bc67cf"), looks := false }, kinds := [], alts := [], laidByText := true, laidKinds := [.data, .pinned], laidTests := true, laidLooks := .later }
def FilterBackUptoCardSaid : Prop := Claim7.holds Tryz.pinned (.plain (OpenSpec.upto filterBackSpec)) filterBackUptoCard

/-- THE SECOND FORM's CARD OF 'tachographlaw10.FilterNots'. -/
def filterNotsUptoCard : Claim7 := { stood := { row := filterNotsUptoRow, standIns := [], harness := (true, "d2d178fa72476064f083a0afb8662cedaeafc5e364fb0fd46d35771e71bc67cf"), looks := false }, kinds := [], alts := [], laidByText := true, laidKinds := [.data, .pinned], laidTests := true, laidLooks := .later }
def FilterNotsUptoCardSaid : Prop := Claim7.holds Tryz.pinned (.plain (OpenSpec.upto filterNotsSpec)) filterNotsUptoCard

/-- THE SECOND FORM's CARD OF 'tachographlaw10.FilterLists'. -/
def filterListsUptoCard : Claim7 := { stood := { row := filterListsUptoRow, standIns := [], harness := (true, "d2d178fa72476064f083a0afb8662cedaeafc5e364fb0fd46d35771e71bc67cf"), looks := false }, kinds := [], alts := [], laidByText := true, laidKinds := [.data, .pinned], laidTests := true, laidLooks := .later }
def FilterListsUptoCardSaid : Prop := Claim7.holds Tryz.pinned (.plain (OpenSpec.upto filterListsSpec)) filterListsUptoCard
end Rows
end Go.Proofs.YtifjbbiphekmmaaGreatDoor
