/-
  Contracts of sorted, And, Or, Less, Add, Del of package sets.
-/
import Derived.Test.YtifjbbiphekmmaaGreatDoorEMake
namespace Go.Proofs.YtifjbbiphekmmaaGreatDoor
open Go.RowKit
set_option linter.unusedVariables false
set_option linter.unusedSimpArgs false

/-- A slice of the texts l is answered; what was there is as it was. -/
def SortP (w : World) (l : List Tx) (e : Ending) (w' : World) : Prop := ∃ a c, e = .returned (.slice a l.length c) ∧ TxAt w' a l.length c l ∧ Below w.heap.size w w'
theorem MadeP.from_ {w W w' : World} {l : List Tx} {e : Ending} (h : MadeP W l e w') (hb : Below w.heap.size w W) : MadeP w l e w' := by
  obtain ⟨v, rfl, h1, h2⟩ := h
  exact ⟨v, rfl, h1.mono hb.size, hb.trans (h2.mono hb.size)⟩
theorem TxAt.len {w : World} {a : Option Addr} {n c : Nat} {l : List Tx} (h : TxAt w a n c l) : TxAt w a l.length c l := by
  have := h.1
  subst this; exact h






end Go.Proofs.YtifjbbiphekmmaaGreatDoor
