/-
  The laid tables of layer 6's seat: out of what the rows list, the kinds' names in memory; and a world in which all lie so.
-/
import Derived.Test.YtojnalpmibpchaaDoorARName
import Derived.ProofKit
import Derived.LaidMore
import Derived.Lay
import Derived.OpenShut
import Derived.Stop.Joined
namespace Go.Proofs.YtojnalpmibpchaaDoor
open Go.ChangeShapes Go.WideShapes Go.ChangeAt Go.WideElems Go.RowKit
set_option linter.unusedVariables false

def laidL : List (String × DataW Unit) := [("unicode/utf8.acceptRanges", Rows.laid_unicode_utf8_acceptRanges), ("unicode.asciiFold", Rows.laid_unicode_asciiFold), ("unicode.caseOrbit", Rows.laid_unicode_caseOrbit), ("tachograph/agg.names", Rows.laid_tachograph_agg_names), ("unicode.CaseRanges", Rows.laid_unicode_CaseRanges), ("unicode/utf8.first", Rows.laid_unicode_utf8_first)]

/-- The table of kinds' names lies in memory. -/
def ANamesAt (w : World) : Prop := 0 < w.heap.size ∧ ∀ i : Nat, i ≤ 7 → w.cell? ⟨0, i, none⟩ = some (.string (nmA i))
theorem ANamesAt.keep {w w' : World} {row : Option Nat} (h : ANamesAt w) (g : w.grownBy w' row) (hr : row ≠ some 0) : ANamesAt w' :=
  ⟨Nat.lt_of_lt_of_le h.1 g.size, fun i hi => by
    have e := g.block 0 h.1 (fun e => hr e.symm)
    have := h.2 i hi
    unfold World.cell? at this ⊢
    simp only [e]
    exact this⟩
theorem ANamesAt.below {w w' : World} (h : ANamesAt w) (b : Below w.heap.size w w') : ANamesAt w' := h.keep (gb_below (row := none) b) (by simp)

theorem gANames : Tryd.prog.globalNamed "tachograph/agg.names" = some 0 := by kernel_rfl
theorem tANames : (Tryd.prog.globals[0]?).map (·.type) = some 44 := by kernel_rfl
theorem cStr : Tryd.prog.cellsOf 9 = 1 := by kernel_rfl
theorem cell_lt {w : World} {a : Addr} {v : Value} (h : w.cell? a = some v) : a.block < w.heap.size := by
  unfold World.cell? at h
  rcases Nat.lt_or_ge a.block w.heap.size with h1 | h1
  · exact h1
  · rw [Array.getElem?_eq_none h1] at h
    simp at h
theorem list_inj' {a b : ByteArray} (h : a.data.toList = b.data.toList) : a = b := by
  obtain ⟨⟨a⟩⟩ := a; obtain ⟨⟨b⟩⟩ := b; simp at h; rw [h]

/-- What the rows list gives the walks. -/
theorem names_of_laid {W : World} (h : laidMetH Tryd.prog laidL W) : ANamesAt W := by
  rw [MakeChecks.laidMetH_plain _ _ _ (by kernel_rfl)] at h
  obtain ⟨ps, hv, _, _⟩ := h
  unfold laidL at hv
  obtain ⟨_, _, _, _, _, _, _, _, _, _, hv, _⟩ := hv
  obtain ⟨_, _, _, _, _, _, _, _, _, _, hv, _⟩ := hv
  obtain ⟨_, _, _, _, _, _, _, _, _, _, hv, _⟩ := hv
  obtain ⟨g0, t0, cs0, f0, p0, q0, hg0, ht0, hv0, hd0, _, _⟩ := hv
  obtain rfl := Option.some.inj (gANames.symm.trans hg0)
  obtain rfl := Option.some.inj (tANames.symm.trans ht0)
  obtain ⟨xs, m1, rfl, hx1, hlen, hn, hel⟩ := DataW.trod_array Tryd.underlying44 hd0
  simp only [Prod.mk.injEq] at hx1
  have key : ∀ i : Nat, i ≤ 7 → W.cell? ⟨0, i, none⟩ = some (.string (nmA i)) := by
    intro i hi
    have h0 := hel i (by omega)
    have hxi : i < xs.length := by omega
    rw [List.getElem?_eq_getElem hxi, cStr, Nat.mul_one] at h0
    obtain ⟨s, e1, e2, _⟩ := DataW.trod_string Tryd.underlying9 h0
    have e3 : (xs.map (·.1))[i]? = some (.lit (.string s.data.toList)) := by
      rw [List.getElem?_map, List.getElem?_eq_getElem hxi, e2]; rfl
    have hs : s = nmA i := by
      have hx2 := hx1.1
      unfold Rows.laid_tachograph_agg_names at hx2
      simp only [DataW.agg.injEq] at hx2
      rw [← hx2] at e3
      have q : i = 0 ∨ i = 1 ∨ i = 2 ∨ i = 3 ∨ i = 4 ∨ i = 5 ∨ i = 6 ∨ i = 7 := by omega
      rcases q with rfl | rfl | rfl | rfl | rfl | rfl | rfl | rfl <;>
        (simp at e3; first | exact list_inj' e3.symm | exact ByteArray.ext e3)
    rw [World.var?_cell hg0 hv0 i]
    rw [← hs]
    have e4 : (cs0.toList.drop i)[0]? = some (.string s) := by
      have : ((cs0.toList.drop i).take 1)[0]? = some (.string s) := by rw [e1]; rfl
      rwa [List.getElem?_take, if_pos (by omega)] at this
    rw [List.getElem?_drop, Array.getElem?_toList] at e4
    simpa using e4
  exact ⟨cell_lt (key 0 (by omega)), key⟩

theorem door_met (os : Os) (args : Array Value) : laidMetH Tryd.prog laidL ((World.laidAll Tryd.prog os laidL).forCall (fun _ _ => 0) ⟨#[], args, []⟩).memory := by
  rw [MakeChecks.laidMetH_plain _ _ _ (by kernel_rfl)]
  exact laidMet_laidAll _ (by kernel_rfl) (by kernel_rfl)
theorem door_shape (os : Os) (args : Array Value) : ((World.laidAll Tryd.prog os laidL).forCall (fun _ _ => 0) ⟨#[], args, []⟩).Shaped Tryd.prog := World.shaped_of_ZipB (by kernel_rfl) (by kernel_rfl)

end Go.Proofs.YtojnalpmibpchaaDoor
