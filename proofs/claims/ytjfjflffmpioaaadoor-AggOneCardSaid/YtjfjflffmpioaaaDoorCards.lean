/-
  DERIVED. GIVEN WITH THE SEED: THE CARDS: each row of YtjfjflffmpioaaaDoorRows.lean that lists a variable, with what it lists TIED to the program's text (the seventh form; the later family's looks); each row that meets fmt, with fmt's text TOLD by the authors' own Lean function (tested against real Go, not proved from fmt's source: count such statements apart). THE CARD IS WHAT COUNTS. Prove the row's statement (the work); the ties are given (YtjfjflffmpioaaaDoorTie.lean); close each card by the builder's one call (the guide's Derived/Test/ToyasCard.lean, 'card_holds'). Laid BY PROGRAM, IN A SANDBOX (cutbox-door.mjs). By AI agents, Wed Nov 11 2026. No macro, syntax, notation, axiom, sorry.
-/
import Derived.Test.YtjfjflffmpioaaaDoorRows
import GoSem.ClaimSeven
namespace Go.Proofs.YtjfjflffmpioaaaDoor
namespace Rows

/-- THE TIED CARD OF 'tachographlaw06.AggTells'. -/
def aggTellsCard : Claim7 := { stood := { row := aggTellsRow, standIns := [], harness := (true, "19ab0c8e6b10cefe4f54d9c3fb9cd072f82eeba73881778959d466c9c9f24c3b"), looks := false }, kinds := [], alts := [], laidByText := true, laidKinds := [.data, .data, .data, .data, .pinned, .pinned], laidTests := true, laidLooks := .later }
def AggTellsCardSaid : Prop := Claim7.holds Tryd.pinned (.plain (OpenSpec.ofChange aggTellsSpec)) aggTellsCard

/-- THE TIED CARD OF 'tachographlaw06.AggFolds'. -/
def aggFoldsCard : Claim7 := { stood := { row := aggFoldsRow, standIns := [], harness := (true, "19ab0c8e6b10cefe4f54d9c3fb9cd072f82eeba73881778959d466c9c9f24c3b"), looks := false }, kinds := [], alts := [], laidByText := true, laidKinds := [.data, .data, .data, .data, .pinned, .pinned], laidTests := true, laidLooks := .later }
def AggFoldsCardSaid : Prop := Claim7.holds Tryd.pinned (.plain (OpenSpec.ofChange aggFoldsSpec)) aggFoldsCard

/-- THE TIED CARD OF 'tachographlaw06.AggBuckets'. -/
def aggBucketsCard : Claim7 := { stood := { row := aggBucketsRow, standIns := [], harness := (true, "19ab0c8e6b10cefe4f54d9c3fb9cd072f82eeba73881778959d466c9c9f24c3b"), looks := false }, kinds := [], alts := [], laidByText := true, laidKinds := [.data, .data, .data, .data, .pinned, .pinned], laidTests := true, laidLooks := .later }
def AggBucketsCardSaid : Prop := Claim7.holds Tryd.pinned (.plain (OpenSpec.ofChange aggBucketsSpec)) aggBucketsCard

/-- THE TIED CARD OF 'tachographlaw06.AggTimes'. -/
def aggTimesCard : Claim7 := { stood := { row := aggTimesRow, standIns := [], harness := (true, "19ab0c8e6b10cefe4f54d9c3fb9cd072f82eeba73881778959d466c9c9f24c3b"), looks := false }, kinds := [], alts := [], laidByText := true, laidKinds := [.data, .data, .data, .data, .pinned, .pinned], laidTests := true, laidLooks := .later }
def AggTimesCardSaid : Prop := Claim7.holds Tryd.pinned (.plain (OpenSpec.ofChange aggTimesSpec)) aggTimesCard

/-- THE TIED CARD OF 'tachographlaw06.AggParts'. -/
def aggPartsCard : Claim7 := { stood := { row := aggPartsRow, standIns := [], harness := (true, "19ab0c8e6b10cefe4f54d9c3fb9cd072f82eeba73881778959d466c9c9f24c3b"), looks := false }, kinds := [], alts := [], laidByText := true, laidKinds := [.data, .data, .data, .data, .pinned, .pinned], laidTests := true, laidLooks := .later }
def AggPartsCardSaid : Prop := Claim7.holds Tryd.pinned (.plain (OpenSpec.ofChange aggPartsSpec)) aggPartsCard

/-- THE TIED CARD OF 'tachographlaw06.AggOne'. -/
def aggOneCard : Claim7 := { stood := { row := aggOneRow, standIns := [], harness := (true, "19ab0c8e6b10cefe4f54d9c3fb9cd072f82eeba73881778959d466c9c9f24c3b"), looks := false }, kinds := [], alts := [], laidByText := true, laidKinds := [.data, .data, .data, .data, .pinned, .pinned], laidTests := true, laidLooks := .later }
def AggOneCardSaid : Prop := Claim7.holds Tryd.pinned (.plain (OpenSpec.ofChange aggOneSpec)) aggOneCard

/-- THE TIED CARD OF 'tachographlaw06.AggNil'. -/
def aggNilCard : Claim7 := { stood := { row := aggNilRow, standIns := [], harness := (true, "19ab0c8e6b10cefe4f54d9c3fb9cd072f82eeba73881778959d466c9c9f24c3b"), looks := false }, kinds := [], alts := [], laidByText := true, laidKinds := [.data, .data, .data, .data, .pinned, .pinned], laidTests := true, laidLooks := .later }
def AggNilCardSaid : Prop := Claim7.holds Tryd.pinned (.plain (OpenSpec.ofChange aggNilSpec)) aggNilCard

/-- THE TIED CARD OF 'tachographlaw06.AggCounts'. -/
def aggCountsCard : Claim7 := { stood := { row := aggCountsRow, standIns := [], harness := (true, "19ab0c8e6b10cefe4f54d9c3fb9cd072f82eeba73881778959d466c9c9f24c3b"), looks := false }, kinds := [], alts := [], laidByText := true, laidKinds := [.data, .data, .data, .data, .pinned, .pinned], laidTests := true, laidLooks := .later }
def AggCountsCardSaid : Prop := Claim7.holds Tryd.pinned (.plain (OpenSpec.ofChange aggCountsSpec)) aggCountsCard

/-- THE SECOND FORM's CARD OF 'tachographlaw06.AggTells'. -/
def aggTellsUptoCard : Claim7 := { stood := { row := aggTellsUptoRow, standIns := [], harness := (true, "19ab0c8e6b10cefe4f54d9c3fb9cd072f82eeba73881778959d466c9c9f24c3b"), looks := false }, kinds := [], alts := [], laidByText := true, laidKinds := [.data, .data, .data, .data, .pinned, .pinned], laidTests := true, laidLooks := .later }
def AggTellsUptoCardSaid : Prop := Claim7.holds Tryd.pinned (.plain (OpenSpec.upto aggTellsSpec)) aggTellsUptoCard

/-- THE SECOND FORM's CARD OF 'tachographlaw06.AggFolds'. -/
def aggFoldsUptoCard : Claim7 := { stood := { row := aggFoldsUptoRow, standIns := [], harness := (true, "19ab0c8e6b10cefe4f54d9c3fb9cd072f82eeba73881778959d466c9c9f24c3b"), looks := false }, kinds := [], alts := [], laidByText := true, laidKinds := [.data, .data, .data, .data, .pinned, .pinned], laidTests := true, laidLooks := .later }
def AggFoldsUptoCardSaid : Prop := Claim7.holds Tryd.pinned (.plain (OpenSpec.upto aggFoldsSpec)) aggFoldsUptoCard

/-- THE SECOND FORM's CARD OF 'tachographlaw06.AggBuckets'. -/
def aggBucketsUptoCard : Claim7 := { stood := { row := aggBucketsUptoRow, standIns := [], harness := (true, "19ab0c8e6b10cefe4f54d9c3fb9cd072f82eeba73881778959d466c9c9f24c3b"), looks := false }, kinds := [], alts := [], laidByText := true, laidKinds := [.data, .data, .data, .data, .pinned, .pinned], laidTests := true, laidLooks := .later }
def AggBucketsUptoCardSaid : Prop := Claim7.holds Tryd.pinned (.plain (OpenSpec.upto aggBucketsSpec)) aggBucketsUptoCard

/-- THE SECOND FORM's CARD OF 'tachographlaw06.AggTimes'. -/
def aggTimesUptoCard : Claim7 := { stood := { row := aggTimesUptoRow, standIns := [], harness := (true, "19ab0c8e6b10cefe4f54d9c3fb9cd072f82eeba73881778959d466c9c9f24c3b"), looks := false }, kinds := [], alts := [], laidByText := true, laidKinds := [.data, .data, .data, .data, .pinned, .pinned], laidTests := true, laidLooks := .later }
def AggTimesUptoCardSaid : Prop := Claim7.holds Tryd.pinned (.plain (OpenSpec.upto aggTimesSpec)) aggTimesUptoCard

/-- THE SECOND FORM's CARD OF 'tachographlaw06.AggParts'. -/
def aggPartsUptoCard : Claim7 := { stood := { row := aggPartsUptoRow, standIns := [], harness := (true, "19ab0c8e6b10cefe4f54d9c3fb9cd072f82eeba73881778959d466c9c9f24c3b"), looks := false }, kinds := [], alts := [], laidByText := true, laidKinds := [.data, .data, .data, .data, .pinned, .pinned], laidTests := true, laidLooks := .later }
def AggPartsUptoCardSaid : Prop := Claim7.holds Tryd.pinned (.plain (OpenSpec.upto aggPartsSpec)) aggPartsUptoCard

/-- THE SECOND FORM's CARD OF 'tachographlaw06.AggOne'. -/
def aggOneUptoCard : Claim7 := { stood := { row := aggOneUptoRow, standIns := [], harness := (true, "19ab0c8e6b10cefe4f54d9c3fb9cd072f82eeba73881778959d466c9c9f24c3b"), looks := false }, kinds := [], alts := [], laidByText := true, laidKinds := [.data, .data, .data, .data, .pinned, .pinned], laidTests := true, laidLooks := .later }
def AggOneUptoCardSaid : Prop := Claim7.holds Tryd.pinned (.plain (OpenSpec.upto aggOneSpec)) aggOneUptoCard

/-- THE SECOND FORM's CARD OF 'tachographlaw06.AggNil'. -/
def aggNilUptoCard : Claim7 := { stood := { row := aggNilUptoRow, standIns := [], harness := (true, "19ab0c8e6b10cefe4f54d9c3fb9cd072f82eeba73881778959d466c9c9f24c3b"), looks := false }, kinds := [], alts := [], laidByText := true, laidKinds := [.data, .data, .data, .data, .pinned, .pinned], laidTests := true, laidLooks := .later }
def AggNilUptoCardSaid : Prop := Claim7.holds Tryd.pinned (.plain (OpenSpec.upto aggNilSpec)) aggNilUptoCard

/-- THE SECOND FORM's CARD OF 'tachographlaw06.AggCounts'. -/
def aggCountsUptoCard : Claim7 := { stood := { row := aggCountsUptoRow, standIns := [], harness := (true, "19ab0c8e6b10cefe4f54d9c3fb9cd072f82eeba73881778959d466c9c9f24c3b"), looks := false }, kinds := [], alts := [], laidByText := true, laidKinds := [.data, .data, .data, .data, .pinned, .pinned], laidTests := true, laidLooks := .later }
def AggCountsUptoCardSaid : Prop := Claim7.holds Tryd.pinned (.plain (OpenSpec.upto aggCountsSpec)) aggCountsUptoCard
end Rows
end Go.Proofs.YtjfjflffmpioaaaDoor
