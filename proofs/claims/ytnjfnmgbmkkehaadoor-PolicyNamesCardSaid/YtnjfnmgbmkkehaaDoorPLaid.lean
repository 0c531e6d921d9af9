/-
  The package's table of names: out of what the rows list of it, its cells in memory; and a world in which it lies so.
-/
import Derived.Test.YtnjfnmgbmkkehaaDoorPText
import Derived.ProofKit
import Derived.LaidMore
import Derived.OpenShut
import Derived.Stop.Joined
namespace Go.Proofs.YtnjfnmgbmkkehaaDoor
open Go.ChangeShapes Go.WideShapes Go.ChangeAt Go.WideElems Go.RowKit
set_option linter.unusedVariables false

def laidL : List (String × DataW Unit) := [("tachograph/policy.names", Rows.laid_tachograph_policy_names)]
theorem gNames : Tryd.prog.globalNamed "tachograph/policy.names" = some 0 := by kernel_rfl
theorem tNames : (Tryd.prog.globals[0]?).map (·.type) = some 38 := by kernel_rfl
theorem cStr : Tryd.prog.cellsOf 9 = 1 := by kernel_rfl

theorem cell_lt {w : World} {a : Addr} {v : Value} (h : w.cell? a = some v) : a.block < w.heap.size := by
  unfold World.cell? at h
  rcases Nat.lt_or_ge a.block w.heap.size with h1 | h1
  · exact h1
  · rw [Array.getElem?_eq_none h1] at h
    simp at h

/-- What the rows list gives the walks. -/
theorem names_of_laid {W : World} (h : laidMetH Tryd.prog laidL W) : NamesAt W := by
  rw [MakeChecks.laidMetH_plain _ _ _ (by kernel_rfl)] at h
  obtain ⟨ps, ⟨g0, t0, cs0, f0, p0, q0, hg0, ht0, hv0, hd0, _, _⟩, _, _⟩ := h
  obtain rfl := Option.some.inj (gNames.symm.trans hg0)
  obtain rfl := Option.some.inj (tNames.symm.trans ht0)
  obtain ⟨xs, m1, rfl, hx1, hlen, hn, hel⟩ := DataW.trod_array Tryd.underlying38 hd0
  simp only [Prod.mk.injEq] at hx1
  have key : ∀ i : Nat, i ≤ 6 → W.cell? ⟨0, i, none⟩ = some (.string (nm i)) := by
    intro i hi
    have h0 := hel i (by omega)
    have hxi : i < xs.length := by omega
    rw [List.getElem?_eq_getElem hxi, cStr, Nat.mul_one] at h0
    obtain ⟨s, e1, e2, _⟩ := DataW.trod_string Tryd.underlying9 h0
    have e3 : (xs.map (·.1))[i]? = some (.lit (.string s.data.toList)) := by
      rw [List.getElem?_map, List.getElem?_eq_getElem hxi, e2]; rfl
    have hs : s = nm i := by
      have hx2 := hx1.1
      unfold Rows.laid_tachograph_policy_names at hx2
      simp only [DataW.agg.injEq] at hx2
      rw [← hx2] at e3
      have q : i = 0 ∨ i = 1 ∨ i = 2 ∨ i = 3 ∨ i = 4 ∨ i = 5 ∨ i = 6 := by omega
      rcases q with rfl | rfl | rfl | rfl | rfl | rfl | rfl <;>
        (simp at e3; first | exact list_inj e3.symm | exact ByteArray.ext e3)
    rw [World.var?_cell hg0 hv0 i]
    rw [← hs]
    have e4 : (cs0.toList.drop i)[0]? = some (.string s) := by
      have : ((cs0.toList.drop i).take 1)[0]? = some (.string s) := by rw [e1]; rfl
      rwa [List.getElem?_take, if_pos (by omega)] at this
    rw [List.getElem?_drop, Array.getElem?_toList] at e4
    simpa using e4
  exact ⟨cell_lt (key 0 (by omega)), key⟩

/-- The door's own heap meets the condition: closed facts. -/
theorem door_met (os : Os) (args : Array Value) : laidMetH Tryd.prog laidL ((World.doorLaid Tryd.prog 400 os).forCall (fun _ _ => 0) ⟨#[], args, []⟩).memory :=
  laidMetH_of_parts3 (fuel := 8) (laidMet_of_run' 8 (by kernel_rfl) (by kernel_rfl)) (by kernel_rfl) (by kernel_rfl)

end Go.Proofs.YtnjfnmgbmkkehaaDoor
