/-
  The arguments of layer 10's statements, read: a slice of texts, a term, a slice of terms.
-/
import Derived.Test.YtifjbbiphekmmaaGreatDoorIArgs
import Derived.Test.YtifjbbiphekmmaaGreatDoorFMem
namespace Go.Proofs.YtifjbbiphekmmaaGreatDoor
open Go.RowKit Go.ChangeShapes Go.WideShapes Go.ChangeAt Go.Deep
set_option linter.unusedVariables false
set_option linter.unusedSimpArgs false

theorem cells_bool10 : Tryz.prog.cellsOf 4 = 1 := by kernel_rfl
theorem cells_ss10 : Tryz.prog.cellsOf 22 = 1 := by kernel_rfl
theorem cells_tm10 : Tryz.prog.cellsOf 24 = 3 := by kernel_rfl
theorem trod_strs {H : Type} {enc : TypeId × Value → H} {W : World} {fuel : Nat} {cs : List Value} {x : DataW H × List MemPlace}
    (hf : DataW.trod enc Tryz.prog W 0 (fun _ => true) true fuel 22 cs = some x) : ∃ a n c l, cs = [.slice a n c] ∧ TxAt W a n c l := by
  rcases open_strings Tryz.underlying22 Tryz.underlying9 (by kernel_rfl) hf with ⟨hcs, _⟩ | ⟨x, len, cap, zs, hcs, _, hl, hm, hzl, _, hc, hw⟩
  · exact ⟨none, 0, 0, [], hcs, TxAt.nil _ _ _⟩
  · simp only [if_true] at hzl
    refine ⟨some x, len, cap, (zs.take len).map tx, hcs, by simp; omega, hl, by unfold maxLen at hm; omega, ?_⟩
    by_cases h0 : len = 0
    · exact .inl h0
    · right
      obtain ⟨b, off, spot⟩ := x
      have hs : spot = none := by
        have := hc 0 (by omega)
        simpa [Addr.add] using World.cell?_spot this
      subst hs
      have hbl : b < W.heap.size := by
        have := World.block_lt_of_cell? W _ (hc 0 (by omega))
        simpa [Addr.add] using this
      refine ⟨b, off, rfl, hbl, fun i hi => ?_⟩
      have ha : (⟨b, off, none⟩ : Addr).add i = ⟨b, off + i, none⟩ := by unfold Addr.add; split <;> simp_all
      have := hc i (by omega)
      rw [ha] at this
      rw [this, List.getD_eq_getElem?_getD, List.getD_eq_getElem?_getD, List.getElem?_map, List.getElem?_take, if_pos hi, List.getElem?_eq_getElem (show i < zs.length by omega)]
      simp [bs_tx]
theorem open_strs10 {H : Type} {enc : TypeId × Value → H} {W : World} {a : Option Addr} {len cap : Nat} {d : DataW H} {p : List MemPlace}
    (h : DataW.Trod enc Tryz.prog W 0 (fun _ => true) true 22 (.slice a len cap) d p) : ∃ z, TxAt W a len cap z := by
  obtain ⟨fuel, hf⟩ := h
  obtain ⟨a', n', c', l, hcs, ht⟩ := trod_strs hf
  simp [Value.cells] at hcs
  obtain ⟨rfl, rfl, rfl⟩ := hcs
  exact ⟨l, ht⟩
theorem open_lbs10 {H : Type} {enc : TypeId × Value → H} {W : World} {a : Option Addr} {len cap : Nat} {d : DataW H} {p : List MemPlace}
    (h : DataW.Trod enc Tryz.prog W 0 (fun _ => true) true 25 (.slice a len cap) d p) : ∃ z, LbAt W a len cap z := by
  obtain ⟨fuel, hf⟩ := h
  obtain ⟨a', n', c', l, hcs, ht⟩ := trod_lbs hf
  simp [Value.cells] at hcs
  obtain ⟨rfl, rfl, rfl⟩ := hcs
  exact ⟨l, ht⟩
set_option maxRecDepth 100000 in
theorem trod_tm {H : Type} {enc : TypeId × Value → H} {W : World} {fuel : Nat} {cs : List Value} {x : DataW H × List MemPlace}
    (hf : DataW.trod enc Tryz.prog W 0 (fun _ => true) true fuel 24 cs = some x) : ∃ e : TmT, cs = [.string (bs e.name), .bool e.neg, .slice e.a e.n e.c] ∧ TmOk W e := by
  obtain ⟨xs, k, hk, hxy, hl, hxl, hfl⟩ := DataW.trod_struct Tryz.underlying24 hf
  rw [cells_tm10] at hl
  match xs, hxl, cs, hl with
  | [y0, y1, y2], _, [v0, v1, v2], _ =>
    have g0 := hfl 0 _ rfl
    have g1 := hfl 1 _ rfl
    have g2 := hfl 2 _ rfl
    simp [cells_str9, cells_bool10, cells_ss10] at g0 g1 g2
    obtain ⟨s0, e0, _⟩ := DataW.trod_string Tryz.underlying9 g0
    obtain ⟨b1, e1, _⟩ := DataW.trod_bool Tryz.underlying4 g1
    obtain ⟨a, n, c, l, e2, hl2⟩ := trod_strs g2
    simp at e0 e1 e2
    subst e0 e1 e2
    exact ⟨⟨tx s0, b1, a, n, c, l⟩, by simp [bs_tx], hl2⟩
set_option maxRecDepth 100000 in
theorem open_tm10 {H : Type} {enc : TypeId × Value → H} {W : World} {r : Reach} {b0 : Nat} {v : Value} {d : DataW H} {p : List MemPlace}
    (hv : Value.okWide Tryz.prog W r b0 24 v) (h : DataW.Trod enc Tryz.prog W 0 (fun _ => true) true 24 v d p) :
    ∃ e : TmT, v = tmV e ∧ TmOk W e := by
  simp only [Value.okWide, Tryz.underlying24] at hv
  obtain ⟨cs, rfl, hsz, _⟩ := hv
  obtain ⟨fuel, hf⟩ := h
  obtain ⟨l⟩ := cs
  have hf : DataW.trod enc Tryz.prog W 0 (fun _ => true) true fuel 24 l = some (d, p) := hf
  obtain ⟨e, rfl, hl⟩ := trod_tm hf
  exact ⟨e, rfl, hl⟩
set_option maxRecDepth 100000 in
theorem open_tms10 {H : Type} {enc : TypeId × Value → H} {W : World} {a : Option Addr} {len cap : Nat} {d : DataW H} {p : List MemPlace}
    (h : DataW.Trod enc Tryz.prog W 0 (fun _ => true) true 44 (.slice a len cap) d p) : ∃ z, TmsAt W a len cap z := by
  obtain ⟨fuel, hf⟩ := h
  rcases open_slice Tryz.underlying44 hf with ⟨hcs, _⟩ | ⟨x, l, c, m, n, D, Pl, hcs, hb, hl, hm, hmm, _, hx⟩
  · simp [Value.cells] at hcs
    obtain ⟨rfl, rfl, rfl⟩ := hcs
    exact ⟨[], TmsAt.nil _ _ _⟩
  · simp [Value.cells] at hcs
    obtain ⟨rfl, rfl, rfl⟩ := hcs
    simp only [if_true] at hmm
    have each : ∀ i, i < len → ∃ e : TmT, W.cell? (x.add (i * 3)) = some (.string (bs e.name)) ∧ W.cell? (x.add (i * 3 + 1)) = some (.bool e.neg) ∧ W.cell? (x.add (i * 3 + 2)) = some (.slice e.a e.n e.c) ∧ TmOk W e := by
      intro i hi
      obtain ⟨cs', h1, h2⟩ := hx i (by omega)
      rw [cells_tm10] at h1
      obtain ⟨_, hlen, hcell⟩ := World.cells?_some h1
      obtain ⟨e, rfl, hl'⟩ := trod_tm h2
      have c0 := hcell 0 (by omega)
      have c1 := hcell 1 (by omega)
      have c2 := hcell 2 (by omega)
      rw [add_add] at c0 c1 c2
      simp at c0 c1 c2
      exact ⟨e, c0, c1, c2, hl'⟩
    obtain ⟨q, hq⟩ := choose_lt each
    refine ⟨(List.range len).map q, ⟨by simp, hl, by unfold maxLen at hm; omega, ?_⟩, fun e he => ?_⟩
    · by_cases h0 : len = 0
      · exact .inl h0
      · right
        obtain ⟨b, off, spot⟩ := x
        have hs : spot = none := by
          obtain ⟨this, _⟩ := hq 0 (by omega)
          simpa [Addr.add] using World.cell?_spot this
        subst hs
        have hbl : b < W.heap.size := by
          obtain ⟨this, _⟩ := hq 0 (by omega)
          have := World.block_lt_of_cell? W _ this
          simpa [Addr.add] using this
        refine ⟨b, off, rfl, hbl, fun i hi => ?_⟩
        obtain ⟨c0, c1, c2, _⟩ := hq i hi
        have ha : ∀ k, (⟨b, off, none⟩ : Addr).add k = ⟨b, off + k, none⟩ := by
          intro k; unfold Addr.add; split <;> simp_all
        rw [ha] at c0 c1 c2
        have e : tmT ((List.range len).map q) i = q i := by
          unfold tmT
          rw [List.getD_eq_getElem?_getD, List.getElem?_map, List.getElem?_range hi]; rfl
        rw [e]
        simp only [Nat.add_assoc] at c0 c1 c2 ⊢
        exact ⟨c0, c1, c2⟩
    · obtain ⟨i, hi, rfl⟩ := List.mem_map.1 he
      exact (hq i (List.mem_range.1 hi)).2.2.2

end Go.Proofs.YtifjbbiphekmmaaGreatDoor
