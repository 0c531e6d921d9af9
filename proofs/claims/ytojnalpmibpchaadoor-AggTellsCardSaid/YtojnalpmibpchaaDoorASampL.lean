/-
  A row of samples that is written out; a row of the call's own as a slice of samples.
-/
import Derived.Test.YtojnalpmibpchaaDoorSamp
namespace Go.Proofs.YtojnalpmibpchaaDoor
open Go.RowKit
set_option linter.unusedVariables false
set_option linter.unusedSimpArgs false

/-- A row of samples that is written out. -/
theorem samp_lit {W : World} {b : Nat} {cs : Array Value} {z : List (Int × Int)} (h : W.heap[b]? = some (.cells cs 39 (0, 0))) (hz : cs.toList = smpCells z) (h64 : All64 z) (hl : z.length ≤ 9223372036854775807) : SampAt W (some ⟨b, 0, none⟩) z.length z.length z := by
  refine ⟨rfl, Nat.le_refl _, hl, h64, .inr ⟨b, 0, rfl, heap_lt h, fun i hi => ?_⟩⟩
  have h1 := smpCells_get z i hi
  rw [← hz, Array.getElem?_toList, Array.getElem?_toList] at h1
  rw [cell_of h, cell_of h, Nat.zero_add]
  exact h1
theorem row_samp {W : World} {base : Nat} {v : Value} {z : List (Int × Int)} (hz : All64 z) (hb : z.length ≤ 9223372036854775807) (hown : W.ownsRow base 39 2 v z.length (smpCells z)) : ∃ ad cp, v = .slice ad z.length cp ∧ SampAt W ad z.length cp z := by
  obtain ⟨ad, cp, e, h, _⟩ := owns_samps hz hb hown
  exact ⟨ad, cp, e, h⟩

end Go.Proofs.YtojnalpmibpchaaDoor
