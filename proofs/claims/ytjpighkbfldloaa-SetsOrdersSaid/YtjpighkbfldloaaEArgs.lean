/-
  The arguments of layer 8's statements, read: a slice of texts.
-/
import Derived.Test.YtjpighkbfldloaaEHas
import Derived.ChangeSlices
import Derived.ProofKit
import Derived.OpenShut
import Derived.SliceStrings
namespace Go.Proofs.Ytjpighkbfldloaa
open Go.RowKit Go.ChangeShapes Go.WideShapes Go.ChangeAt
set_option linter.unusedVariables false
set_option linter.unusedSimpArgs false

theorem laidOut : laidOutB Try.prog = true := by kernel_rfl
theorem open_strs {H : Type} {enc : TypeId × Value → H} {W : World} {a : Option Addr} {len cap : Nat} {d : DataW H} {p : List MemPlace}
    (h : DataW.Trod enc Try.prog W 0 (fun _ => true) true 22 (.slice a len cap) d p) : ∃ z, TxAt W a len cap z ∧ Sh z := by
  obtain ⟨fuel, hf⟩ := h
  rcases open_strings Try.underlying22 Try.underlying9 (by kernel_rfl) hf with ⟨hcs, _⟩ | ⟨x, len', c', zs, hcs, _, hl, hm, hzl, _, hc, hw⟩
  · simp [Value.cells] at hcs
    obtain ⟨rfl, rfl, rfl⟩ := hcs
    exact ⟨[], TxAt.nil _ _ _, fun x hx => by cases hx⟩
  · simp [Value.cells] at hcs
    obtain ⟨rfl, rfl, rfl⟩ := hcs
    simp only [if_true] at hzl
    refine ⟨(zs.take len).map tx, ⟨by simp; omega, hl, by unfold maxLen at hm; omega, ?_⟩, fun y hy => ?_⟩
    · by_cases h0 : len = 0
      · exact .inl h0
      · right
        obtain ⟨b, off, spot⟩ := x
        have hs : spot = none := by
          have := hc 0 (by omega)
          simpa [Addr.add] using World.cell?_spot this
        subst hs
        have hbl : b < W.heap.size := by
          have := World.block_lt_of_cell? W _ (hc 0 (by omega))
          simpa [Addr.add] using this
        refine ⟨b, off, rfl, hbl, fun i hi => ?_⟩
        have ha : (⟨b, off, none⟩ : Addr).add i = ⟨b, off + i, none⟩ := by unfold Addr.add; split <;> simp_all
        have := hc i (by omega)
        rw [ha] at this
        rw [this, List.getD_eq_getElem?_getD, List.getD_eq_getElem?_getD, List.getElem?_map, List.getElem?_take, if_pos hi, List.getElem?_eq_getElem (show i < zs.length by omega)]
        simp [bs_tx]
    · obtain ⟨s, hs, rfl⟩ := List.mem_map.1 hy
      have := hw s (List.mem_of_mem_take hs)
      unfold maxLen at this
      unfold tx
      rw [Array.length_toList]
      exact this

end Go.Proofs.Ytjpighkbfldloaa
