/-
  A literal slice of texts; what an index turns is its own, or new.
-/
import Derived.Test.YtifjbbiphekmmaaGreatDoorISet
namespace Go.Proofs.YtifjbbiphekmmaaGreatDoor
open Go.RowKit
set_option linter.unusedVariables false
set_option linter.unusedSimpArgs false

theorem tx_lit {W : World} {b : Nat} {l : List Tx} {t : TypeId} (h : W.heap[b]? = some (.cells (l.map tc).toArray t (0, 0))) (hl : l.length ≤ 9223372036854775807 := by simp) : TxAt W (some ⟨b, 0, none⟩) l.length l.length l :=
  ⟨rfl, Nat.le_refl _, hl, .inr ⟨b, 0, rfl, heap_lt h, fun i hi => by
    rw [cell_of h, Nat.zero_add, List.getElem?_toArray, List.getElem?_map, List.getElem?_eq_getElem hi, getD_get hi]; rfl⟩⟩
/-- What an index turns lies among what is its own, or is new. -/
theorem fa_turn {w w' : World} {x bl bn : Nat} {ρ ρ' : Rho} {E' : List Ent} {B : Nat} (h : ∀ i, FA ρ i → B ≤ i) (t : IxTurn w w' x bl bn ρ ρ' E') (hB : B ≤ w.heap.size) : ∀ i, FA ρ' i → B ≤ i := by
  intro i f
  by_cases hi : i < w.heap.size
  · exact h i (by unfold FA at *; rw [t.ext i hi] at f; exact f)
  · omega

end Go.Proofs.YtifjbbiphekmmaaGreatDoor
