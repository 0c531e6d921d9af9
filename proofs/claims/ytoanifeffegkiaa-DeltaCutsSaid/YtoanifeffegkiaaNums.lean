/-
  A slice of uint64, read as a list; the codes of numbers one behind the other.
-/
import Derived.Test.YtoanifeffegkiaaDMath
import Derived.Test.YtoanifeffegkiaaUse
import Derived.ChangeSlices
import Derived.ProofKit
import Derived.OpenShut
namespace Go.Proofs.Ytoanifeffegkiaa
open Go.RowKit Go.ChangeShapes Go.WideShapes
set_option linter.unusedVariables false
set_option linter.unusedSimpArgs false

def NumsAt (w : World) (a : Option Addr) (len : Nat) (z : List Nat) : Prop :=
  z.length = len ∧ len ≤ 9223372036854775807 ∧ (∀ x ∈ z, x < 18446744073709551616) ∧
  (len = 0 ∨ ∃ b off, a = some ⟨b, off, none⟩ ∧ b < w.heap.size ∧ ∀ i, i < len → w.cell? ⟨b, off + i, none⟩ = some (.int .u64 (z.getD i 0 : Int)))

theorem open_u64s {H : Type} {enc : TypeId × Value → H} {W : World} {a : Option Addr} {len cap : Nat} {d : DataW H} {p : List MemPlace}
    (h : DataW.Trod enc Try.prog W 0 (fun _ => true) true 62 (.slice a len cap) d p) : ∃ z, NumsAt W a len z := by
  obtain ⟨fuel, hf⟩ := h
  rcases open_ints Try.underlying62 Try.underlying22 (by kernel_rfl) hf with ⟨hcs, _⟩ | ⟨x, l, c, zs, hcs, _, hl, hm, hzl, _, hc, hwf⟩
  · simp [Value.cells] at hcs
    obtain ⟨rfl, rfl, rfl⟩ := hcs
    exact ⟨[], rfl, by omega, by simp, .inl rfl⟩
  · simp [Value.cells] at hcs
    obtain ⟨rfl, rfl, rfl⟩ := hcs
    simp only [if_true] at hzl
    have hb : ∀ n ∈ zs, 0 ≤ n ∧ n ≤ 18446744073709551615 := fun n hn => bounds_u64 (hwf n hn)
    refine ⟨(zs.take len).map Int.toNat, by simp; omega, by unfold maxLen at hm; omega, ?_, ?_⟩
    · intro y hy
      rw [List.mem_map] at hy
      obtain ⟨n, hn, rfl⟩ := hy
      have := hb n (List.mem_of_mem_take hn)
      omega
    · by_cases h0 : len = 0
      · exact .inl h0
      · right
        obtain ⟨b, off, spot⟩ := x
        have hs : spot = none := by
          have := hc 0 (by omega)
          simpa [Addr.add] using World.cell?_spot this
        subst hs
        have hbl : b < W.heap.size := by
          have := World.block_lt_of_cell? W _ (hc 0 (by omega))
          simpa [Addr.add] using this
        refine ⟨b, off, rfl, hbl, fun i hi => ?_⟩
        have ha : (⟨b, off, none⟩ : Addr).add i = ⟨b, off + i, none⟩ := by unfold Addr.add; split <;> simp_all
        have := hc i (by omega)
        rw [ha] at this
        rw [this]
        have hz : zs.getD i 0 = zs[i]'(by omega) := by rw [List.getD_eq_getElem?_getD, List.getElem?_eq_getElem (by omega)]; rfl
        have h0' := (hb _ (List.getElem_mem (show i < zs.length by omega))).1
        rw [hz]
        rw [List.getD_eq_getElem?_getD, List.getElem?_map, List.getElem?_take, if_pos hi, List.getElem?_eq_getElem (by omega)]
        simp only [Option.map_some, Option.getD_some]
        rw [Int.toNat_of_nonneg h0']

def codes (z : List Nat) : List Bool := z.flatMap code
theorem codes_take (z : List Nat) (j : Nat) (h : j < z.length) : codes (z.take (j + 1)) = codes (z.take j) ++ code (z.getD j 0) := by
  rw [List.take_succ_eq_append_getElem h, List.getD_eq_getElem?_getD, List.getElem?_eq_getElem h, codes, List.flatMap_append]
  simp only [List.flatMap_cons, List.flatMap_nil, List.append_nil]
  rfl
theorem codes_len (z : List Nat) : (codes z).length ≤ 68 * z.length := by
  induction z with
  | nil => simp [codes]
  | cons x r ih =>
    have := csize_le x
    have e : codes (x :: r) = code x ++ codes r := by simp [codes]
    rw [e, List.length_append, code_length, List.length_cons]
    omega
theorem codes_drop (z : List Nat) (j m : Nat) (h : j < m) (hm : m ≤ z.length) : ∃ r, (codes (z.take m)).drop (codes (z.take j)).length = code (z.getD j 0) ++ r ∧ (codes (z.take j)).length + csize (z.getD j 0) = (codes (z.take (j + 1))).length := by
  have e : codes (z.take m) = codes (z.take j) ++ (code (z.getD j 0) ++ codes ((z.drop (j + 1)).take (m - (j + 1)))) := by
    rw [← List.append_assoc, ← codes_take z j (by omega)]
    have e2 : z.take m = z.take (j + 1) ++ (z.drop (j + 1)).take (m - (j + 1)) := by
      rw [← List.take_add, show j + 1 + (m - (j + 1)) = m from by omega]
    rw [e2, codes, List.flatMap_append]
    rfl
  refine ⟨codes ((z.drop (j + 1)).take (m - (j + 1))), ?_, ?_⟩
  · rw [e, List.drop_left]
  · rw [codes_take z j (by omega), List.length_append, code_length]

end Go.Proofs.Ytoanifeffegkiaa
