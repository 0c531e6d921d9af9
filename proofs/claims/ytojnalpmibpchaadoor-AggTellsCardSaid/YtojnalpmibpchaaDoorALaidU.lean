/-
  Go's own tables for folding letters, out of what the rows list: asciiFold, and what caseOrbit's search for 383 comes by.
-/
import Derived.Test.YtojnalpmibpchaaDoorALaid
import Derived.Deep.SlicePairs
namespace Go.Proofs.YtojnalpmibpchaaDoor
open Go.ChangeShapes Go.WideShapes Go.ChangeAt Go.WideElems Go.RowKit Go.Deep
set_option linter.unusedVariables false
set_option linter.unusedSimpArgs false

def afold (r : Nat) : Int := if 65 ≤ r ∧ r ≤ 90 then r + 32 else if r = 107 then 8490 else if r = 115 then 383 else if 97 ≤ r ∧ r ≤ 122 then r - 32 else r
/-- The table of ASCII lies in memory. -/
def AsciiAt (w : World) : Prop := 1 < w.heap.size ∧ ∀ r : Nat, r < 128 → w.cell? ⟨1, r, none⟩ = some (.int .u16 (afold r))
theorem AsciiAt.below {w w' : World} (h : AsciiAt w) (b : Below w.heap.size w w') : AsciiAt w' :=
  ⟨Nat.lt_of_lt_of_le h.1 b.size, fun r hr => by rw [b.cell h.1]; exact h.2 r hr⟩

theorem gAscii : Tryd.prog.globalNamed "unicode.asciiFold" = some 1 := by kernel_rfl
theorem tAscii : (Tryd.prog.globals[1]?).map (·.type) = some 66 := by kernel_rfl
theorem cU16 : Tryd.prog.cellsOf 65 = 1 := by kernel_rfl
def asciiZ : List Int := (List.range 128).map afold
theorem ascii_is : (Rows.laid_unicode_asciiFold : DataW Unit) = .agg (asciiZ.map fun n => .lit (.int .u16 n)) := by kernel_rfl

theorem ascii_of_laid {W : World} (h : laidMetH Tryd.prog laidL W) : AsciiAt W := by
  rw [MakeChecks.laidMetH_plain _ _ _ (by kernel_rfl)] at h
  obtain ⟨ps, hv, _, _⟩ := h
  unfold laidL at hv
  obtain ⟨_, _, _, _, _, _, _, _, _, _, hv, _⟩ := hv
  obtain ⟨g0, t0, cs0, f0, p0, q0, hg0, ht0, hv0, hd0, _, _⟩ := hv
  obtain rfl := Option.some.inj (gAscii.symm.trans hg0)
  obtain rfl := Option.some.inj (tAscii.symm.trans ht0)
  obtain ⟨xs, m1, rfl, hx1, hlen, hn, hel⟩ := DataW.trod_array Tryd.underlying66 hd0
  simp only [Prod.mk.injEq] at hx1
  have hz : asciiZ.length = 128 := by simp [asciiZ]
  have e3 : (xs.map (·.1)) = asciiZ.map fun n => .lit (.int .u16 n) := (DataW.agg.inj (ascii_is.symm.trans hx1.1)).symm
  have key : ∀ r : Nat, r < 128 → W.cell? ⟨1, r, none⟩ = some (.int .u16 (afold r)) := by
    intro r hr
    have h0 := hel r (by omega)
    have hxi : r < xs.length := by omega
    rw [List.getElem?_eq_getElem hxi, cU16, Nat.mul_one] at h0
    obtain ⟨z, e1, e2, _⟩ := DataW.trod_int Tryd.underlying65 h0
    have e4 : (xs.map (·.1))[r]? = (asciiZ.map fun n => (DataW.lit (.int .u16 n) : DataW Unit))[r]? := by rw [e3]
    rw [List.getElem?_map, List.getElem?_map, List.getElem?_eq_getElem hxi, List.getElem?_eq_getElem (by omega : r < asciiZ.length), e2] at e4
    have hzz : z = afold r := by
      simp only [Option.map_some, Option.some.injEq, DataW.lit.injEq, Lit.int.injEq, true_and] at e4
      rw [e4]
      simp [asciiZ]
    rw [World.var?_cell hg0 hv0 r, ← hzz]
    have e5 : (cs0.toList.drop r)[0]? = some (.int .u16 z) := by
      have : ((cs0.toList.drop r).take 1)[0]? = some (.int .u16 z) := by rw [e1]; rfl
      rwa [List.getElem?_take, if_pos (by omega)] at this
    rw [List.getElem?_drop, Array.getElem?_toList] at e5
    simpa using e5
  exact ⟨cell_lt (key 0 (by omega)), key⟩

/-- A pair of the table of orbits. -/
def orbGet : DataW Unit → Nat → Option (Int × Int)
  | .slice es _, i => match es[i]? with
    | some (.agg [.lit (.int .u16 x), .lit (.int .u16 y)]) => some (x, y)
    | _ => none
  | _, _ => none
def orbLen : DataW Unit → Nat
  | .slice es _ => es.length
  | _ => 0
/-- The table of orbits lies in memory: its length, and the pairs that the search for 383 comes by. -/
def OrbAt (w : World) : Prop := 2 < w.heap.size ∧ ∃ b off cap, w.cell? ⟨2, 0, none⟩ = some (.slice (some ⟨b, off, none⟩) 94 cap) ∧ b < w.heap.size ∧
  ∀ i x y, i < 94 → orbGet Rows.laid_unicode_caseOrbit i = some (x, y) → w.cell? ⟨b, off + i * 2, none⟩ = some (.int .u16 x) ∧ w.cell? ⟨b, off + i * 2 + 1, none⟩ = some (.int .u16 y)
theorem OrbAt.below {w w' : World} (h : OrbAt w) (hb : Below w.heap.size w w') : OrbAt w' := by
  obtain ⟨h1, b, off, cap, h2, h3, h4⟩ := h
  exact ⟨Nat.lt_of_lt_of_le h1 hb.size, b, off, cap, by rw [hb.cell h1]; exact h2, Nat.lt_of_lt_of_le h3 hb.size, fun i x y hi he => by rw [hb.cell h3, hb.cell h3]; exact h4 i x y hi he⟩
theorem gOrb : Tryd.prog.globalNamed "unicode.caseOrbit" = some 2 := by kernel_rfl
theorem tOrb : (Tryd.prog.globals[2]?).map (·.type) = some 67 := by kernel_rfl
theorem orb_len : orbLen Rows.laid_unicode_caseOrbit = 94 := by kernel_rfl
theorem orb_path : orbGet Rows.laid_unicode_caseOrbit 47 = some (966, 981) ∧ orbGet Rows.laid_unicode_caseOrbit 23 = some (837, 921) ∧ orbGet Rows.laid_unicode_caseOrbit 11 = some (452, 453) ∧ orbGet Rows.laid_unicode_caseOrbit 5 = some (197, 229) ∧
    orbGet Rows.laid_unicode_caseOrbit 8 = some (304, 304) ∧ orbGet Rows.laid_unicode_caseOrbit 10 = some (383, 83) ∧ orbGet Rows.laid_unicode_caseOrbit 9 = some (305, 305) :=
  ⟨by kernel_rfl, by kernel_rfl, by kernel_rfl, by kernel_rfl, by kernel_rfl, by kernel_rfl, by kernel_rfl⟩

theorem orb_of_laid {W : World} (h : laidMetH Tryd.prog laidL W) : OrbAt W := by
  rw [MakeChecks.laidMetH_plain _ _ _ (by kernel_rfl)] at h
  obtain ⟨ps, hv, _, _⟩ := h
  unfold laidL at hv
  obtain ⟨_, _, _, _, _, _, _, _, _, _, hv, _⟩ := hv
  obtain ⟨_, _, _, _, _, _, _, _, _, _, hv, _⟩ := hv
  obtain ⟨g0, t0, cs0, f0, p0, q0, hg0, ht0, hv0, hd0, _, _⟩ := hv
  obtain rfl := Option.some.inj (gOrb.symm.trans hg0)
  obtain rfl := Option.some.inj (tOrb.symm.trans ht0)
  rcases open_slice_pairs Tryd.underlying67 Tryd.underlying70 (by kernel_rfl) rfl rfl (by kernel_rfl) (by kernel_rfl) hd0 with ⟨_, hx⟩ | ⟨a, len, cap, m, n, V0, V1, D0, D1, P0, P1, hcs, _, hl, hm, hmm, hx, hc⟩
  · exfalso
    have := (Prod.mk.inj hx).1
    have e := orb_len
    rw [this] at e
    simp [orbLen] at e
  · have e := (Prod.mk.inj hx).1
    have el : len = 94 := by
      have := orb_len
      rw [e] at this
      simpa [orbLen] using this
    subst el
    have hml : 94 ≤ m := by rw [hmm]; split <;> omega
    have h0 : W.cell? ⟨2, 0, none⟩ = some (.slice (some a) 94 cap) := by
      rw [World.var?_cell hg0 hv0 0]
      have : cs0.toList[0]? = some (.slice (some a) 94 cap) := by rw [hcs]; rfl
      simpa using this
    obtain ⟨b, off, spot⟩ := a
    have hs : spot = none := by
      have := (hc 0 (by omega)).1
      simpa [Addr.add] using World.cell?_spot this
    subst hs
    have hb : b < W.heap.size := by
      have := World.block_lt_of_cell? W _ (hc 0 (by omega)).1
      simpa [Addr.add] using this
    refine ⟨cell_lt h0, b, off, cap, h0, hb, fun i x y hi he => ?_⟩
    obtain ⟨c0, c1, d0, d1⟩ := hc i (by omega)
    have ha : ∀ k, (⟨b, off, none⟩ : Addr).add k = ⟨b, off + k, none⟩ := by
      intro k; unfold Addr.add; split <;> simp_all
    rw [ha] at c0 c1
    rw [e] at he
    simp only [orbGet] at he
    rw [List.getElem?_map, List.getElem?_range hi] at he
    simp only [Option.map_some] at he
    obtain ⟨n0, e0, q0', _⟩ := DataW.trod_int Tryd.underlying65 d0
    obtain ⟨n1, e1, q1', _⟩ := DataW.trod_int Tryd.underlying65 d1
    have f0 : D0 i = .lit (.int .u16 n0) := (Prod.mk.inj q0').1
    have f1 : D1 i = .lit (.int .u16 n1) := (Prod.mk.inj q1').1
    rw [f0, f1] at he
    simp only [Option.some.injEq, Prod.mk.injEq] at he
    obtain ⟨rfl, rfl⟩ := he
    simp at e0 e1
    rw [e0] at c0
    rw [e1] at c1
    exact ⟨c0, by rw [Nat.add_assoc]; exact c1⟩

end Go.Proofs.YtojnalpmibpchaaDoor
