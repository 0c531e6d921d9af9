/-
  The arguments of layer 9's statements, read: a slice of calls (a kind, a key, labels), a call, a label.
-/
import Derived.Test.YtifjbbiphekmmaaGreatDoorILab
import Derived.ChangeSlices
import Derived.Deep.Slices
import Derived.Deep.SlicePairs
import Derived.ProofKit
import Derived.OpenShut
import Derived.SliceStrings
namespace Go.Proofs.YtifjbbiphekmmaaGreatDoor
open Go.RowKit Go.ChangeShapes Go.WideShapes Go.ChangeAt Go.Deep
set_option linter.unusedVariables false
set_option linter.unusedSimpArgs false

theorem laidOut : laidOutB Tryz.prog = true := by kernel_rfl
theorem cells_int9 : Tryz.prog.cellsOf 3 = 1 := by kernel_rfl
theorem cells_str9 : Tryz.prog.cellsOf 9 = 1 := by kernel_rfl
theorem cells_sl9 : Tryz.prog.cellsOf 25 = 1 := by kernel_rfl
theorem cells_lb9 : Tryz.prog.cellsOf 69 = 2 := by kernel_rfl
theorem cells_op9 : Tryz.prog.cellsOf 85 = 3 := by kernel_rfl

set_option maxRecDepth 100000 in
theorem trod_lb {H : Type} {enc : TypeId × Value → H} {W : World} {fuel : Nat} {cs : List Value} {x : DataW H × List MemPlace}
    (hf : DataW.trod enc Tryz.prog W 0 (fun _ => true) true fuel 69 cs = some x) : ∃ q : Lb, cs = [.string (bs q.1), .string (bs q.2)] := by
  obtain ⟨xs, k, hk, hxy, hl, hxl, hfl⟩ := DataW.trod_struct Tryz.underlying69 hf
  rw [cells_lb9] at hl
  match xs, hxl, cs, hl with
  | [y0, y1], _, [v0, v1], _ =>
    have g0 := hfl 0 _ rfl
    have g1 := hfl 1 _ rfl
    simp [cells_str9] at g0 g1
    obtain ⟨s0, e0, _⟩ := DataW.trod_string Tryz.underlying9 g0
    obtain ⟨s1, e1, _⟩ := DataW.trod_string Tryz.underlying9 g1
    simp at e0 e1
    subst e0 e1
    exact ⟨(tx s0, tx s1), by rw [bs_tx, bs_tx]⟩

set_option maxRecDepth 100000 in
theorem trod_lbs {H : Type} {enc : TypeId × Value → H} {W : World} {fuel : Nat} {cs : List Value} {x : DataW H × List MemPlace}
    (hf : DataW.trod enc Tryz.prog W 0 (fun _ => true) true fuel 25 cs = some x) : ∃ a n c l, cs = [.slice a n c] ∧ LbAt W a n c l := by
  rcases open_slice Tryz.underlying25 hf with ⟨hcs, _⟩ | ⟨x, len, c, m, n, D, Pl, hcs, hb, hl, hm, hmm, _, hx⟩
  · exact ⟨none, 0, 0, [], hcs, LbAt.nil _ _ _⟩
  · simp only [if_true] at hmm
    have each : ∀ i, i < len → ∃ q : Lb, W.cell? (x.add (i * 2)) = some (.string (bs q.1)) ∧ W.cell? (x.add (i * 2 + 1)) = some (.string (bs q.2)) := by
      intro i hi
      obtain ⟨cs', h1, h2⟩ := hx i (by omega)
      rw [cells_lb9] at h1
      obtain ⟨_, hlen, hcell⟩ := World.cells?_some h1
      obtain ⟨q, rfl⟩ := trod_lb h2
      have c0 := hcell 0 (by omega)
      have c1 := hcell 1 (by omega)
      rw [add_add] at c0 c1
      simp at c0 c1
      exact ⟨q, c0, c1⟩
    obtain ⟨q, hq⟩ := choose_lt each
    refine ⟨some x, len, c, (List.range len).map q, hcs, by simp, hl, by unfold maxLen at hm; omega, ?_⟩
    by_cases h0 : len = 0
    · exact .inl h0
    · right
      obtain ⟨b, off, spot⟩ := x
      have hs : spot = none := by
        have := (hq 0 (by omega)).1
        simpa [Addr.add] using World.cell?_spot this
      subst hs
      have hbl : b < W.heap.size := by
        have := World.block_lt_of_cell? W _ (hq 0 (by omega)).1
        simpa [Addr.add] using this
      refine ⟨b, off, rfl, hbl, fun i hi => ?_⟩
      obtain ⟨c0, c1⟩ := hq i hi
      have ha : ∀ k, (⟨b, off, none⟩ : Addr).add k = ⟨b, off + k, none⟩ := by
        intro k; unfold Addr.add; split <;> simp_all
      rw [ha] at c0 c1
      have e : ((List.range len).map q).getD i ([], []) = q i := by
        rw [List.getD_eq_getElem?_getD, List.getElem?_map, List.getElem?_range hi]; rfl
      unfold lN lV
      rw [e]
      exact ⟨c0, by rw [Nat.add_assoc]; exact c1⟩

/-- A call: a kind, a key, labels. -/
structure OpL where
  k : Int
  key : Tx
  l : List Lb
instance : Inhabited OpL := ⟨⟨0, [], []⟩⟩
def OpAt (w : World) (a : Option Addr) (len cap : Nat) (z : List OpL) : Prop :=
  z.length = len ∧ len ≤ cap ∧ len ≤ 9223372036854775807 ∧
  (len = 0 ∨ ∃ b off, a = some ⟨b, off, none⟩ ∧ b < w.heap.size ∧ ∀ i (h : i < z.length), ∃ a' n' c', w.cell? ⟨b, off + i * 3, none⟩ = some (.int .i64 z[i].k) ∧ w.cell? ⟨b, off + i * 3 + 1, none⟩ = some (.string (bs z[i].key)) ∧
    w.cell? ⟨b, off + i * 3 + 2, none⟩ = some (.slice a' n' c') ∧ LbAt w a' n' c' z[i].l)
theorem OpAt.trn {F : Nat → Prop} {w w' : World} (t : Trn F w w') {a : Option Addr} {n c : Nat} {z : List OpL} (h : OpAt w a n c z) : OpAt w' a n c z := by
  obtain ⟨h1, h2, h3, h5⟩ := h
  refine ⟨h1, h2, h3, ?_⟩
  rcases h5 with h0 | ⟨b, off, rfl, hlt, hc⟩
  · exact .inl h0
  · refine .inr ⟨b, off, rfl, Nat.lt_of_lt_of_le hlt t.size, fun i hi => ?_⟩
    obtain ⟨a', n', c', e0, e1, e2, e3⟩ := hc i hi
    exact ⟨a', n', c', t.cell e0, t.cell e1, t.cell e2, e3.trn t⟩
theorem OpAt.keep {w w' : World} {a : Option Addr} {n c : Nat} {z : List OpL} (h : OpAt w a n c z) (hb : Below w.heap.size w w') : OpAt w' a n c z := h.trn (F := fun _ => False) (.of hb)
theorem OpAt.at_ {w : World} {a : Option Addr} {n c : Nat} {z : List OpL} (h : OpAt w a n c z) (i : Nat) (hi : i < n) :
    ∃ b off a' n' c', ∃ (hz : i < z.length), a = some ⟨b, off, none⟩ ∧ b < w.heap.size ∧ w.cell? ⟨b, off + i * 3, none⟩ = some (.int .i64 z[i].k) ∧ w.cell? ⟨b, off + i * 3 + 1, none⟩ = some (.string (bs z[i].key)) ∧
      w.cell? ⟨b, off + i * 3 + 2, none⟩ = some (.slice a' n' c') ∧ LbAt w a' n' c' z[i].l := by
  obtain ⟨h1, h2, h3, h5⟩ := h
  rcases h5 with h0 | ⟨b, off, rfl, hlt, hc⟩
  · omega
  · obtain ⟨a', n', c', e⟩ := hc i (by omega)
    exact ⟨b, off, a', n', c', by omega, rfl, hlt, e⟩

set_option maxRecDepth 100000 in
theorem trod_op {H : Type} {enc : TypeId × Value → H} {W : World} {fuel : Nat} {cs : List Value} {x : DataW H × List MemPlace}
    (hf : DataW.trod enc Tryz.prog W 0 (fun _ => true) true fuel 85 cs = some x) : ∃ (q : OpL) (a : Option Addr) (n c : Nat), cs = [.int .i64 q.k, .string (bs q.key), .slice a n c] ∧ LbAt W a n c q.l := by
  obtain ⟨xs, k, hk, hxy, hl, hxl, hfl⟩ := DataW.trod_struct Tryz.underlying85 hf
  rw [cells_op9] at hl
  match xs, hxl, cs, hl with
  | [y0, y1, y2], _, [v0, v1, v2], _ =>
    have g0 := hfl 0 _ rfl
    have g1 := hfl 1 _ rfl
    have g2 := hfl 2 _ rfl
    simp [cells_str9, cells_int9, cells_sl9] at g0 g1 g2
    obtain ⟨n0, e0, _, w0⟩ := DataW.trod_int Tryz.underlying3 g0
    obtain ⟨s1, e1, _⟩ := DataW.trod_string Tryz.underlying9 g1
    obtain ⟨a, n, c, l, e2, hl2⟩ := trod_lbs g2
    simp at e0 e1 e2
    subst e0 e1 e2
    exact ⟨⟨n0, tx s1, l⟩, a, n, c, by simp [bs_tx], hl2⟩

theorem open_ops9 {H : Type} {enc : TypeId × Value → H} {W : World} {a : Option Addr} {len cap : Nat} {d : DataW H} {p : List MemPlace}
    (h : DataW.Trod enc Tryz.prog W 0 (fun _ => true) true 51 (.slice a len cap) d p) : ∃ z, OpAt W a len cap z := by
  obtain ⟨fuel, hf⟩ := h
  rcases open_slice Tryz.underlying51 hf with ⟨hcs, _⟩ | ⟨x, l, c, m, n, D, Pl, hcs, hb, hl, hm, hmm, _, hx⟩
  · simp [Value.cells] at hcs
    obtain ⟨rfl, rfl, rfl⟩ := hcs
    exact ⟨[], rfl, Nat.le_refl _, by omega, .inl rfl⟩
  · simp [Value.cells] at hcs
    obtain ⟨rfl, rfl, rfl⟩ := hcs
    simp only [if_true] at hmm
    have each : ∀ i, i < len → ∃ q : OpL, ∃ a' n' c', W.cell? (x.add (i * 3)) = some (.int .i64 q.k) ∧ W.cell? (x.add (i * 3 + 1)) = some (.string (bs q.key)) ∧ W.cell? (x.add (i * 3 + 2)) = some (.slice a' n' c') ∧ LbAt W a' n' c' q.l := by
      intro i hi
      obtain ⟨cs', h1, h2⟩ := hx i (by omega)
      rw [cells_op9] at h1
      obtain ⟨_, hlen, hcell⟩ := World.cells?_some h1
      obtain ⟨q, a', n', c', rfl, hl'⟩ := trod_op h2
      have c0 := hcell 0 (by omega)
      have c1 := hcell 1 (by omega)
      have c2 := hcell 2 (by omega)
      rw [add_add] at c0 c1 c2
      simp at c0 c1 c2
      exact ⟨q, a', n', c', c0, c1, c2, hl'⟩
    obtain ⟨q, hq⟩ := choose_lt each
    refine ⟨(List.range len).map q, by simp, hl, by unfold maxLen at hm; omega, ?_⟩
    by_cases h0 : len = 0
    · exact .inl h0
    · right
      obtain ⟨b, off, spot⟩ := x
      have hs : spot = none := by
        obtain ⟨_, _, _, this, _⟩ := hq 0 (by omega)
        simpa [Addr.add] using World.cell?_spot this
      subst hs
      have hbl : b < W.heap.size := by
        obtain ⟨_, _, _, this, _⟩ := hq 0 (by omega)
        have := World.block_lt_of_cell? W _ this
        simpa [Addr.add] using this
      refine ⟨b, off, rfl, hbl, fun i hi => ?_⟩
      simp at hi
      obtain ⟨a', n', c', c0, c1, c2, c3⟩ := hq i hi
      have ha : ∀ k, (⟨b, off, none⟩ : Addr).add k = ⟨b, off + k, none⟩ := by
        intro k; unfold Addr.add; split <;> simp_all
      rw [ha] at c0 c1 c2
      simp only [List.getElem_map, List.getElem_range, Nat.add_assoc]
      exact ⟨a', n', c', c0, c1, c2, c3⟩

set_option maxRecDepth 100000 in
theorem open_lb9 {H : Type} {enc : TypeId × Value → H} {W : World} {r : Reach} {b0 : Nat} {v : Value} {d : DataW H} {p : List MemPlace}
    (hv : Value.okWide Tryz.prog W r b0 69 v) (h : DataW.Trod enc Tryz.prog W 0 (fun _ => true) true 69 v d p) :
    ∃ q : Lb, v = .agg #[.string (bs q.1), .string (bs q.2)] ∧ True := by
  simp only [Value.okWide, Tryz.underlying69] at hv
  obtain ⟨cs, rfl, hsz, _⟩ := hv
  obtain ⟨fuel, hf⟩ := h
  obtain ⟨l⟩ := cs
  have hf : DataW.trod enc Tryz.prog W 0 (fun _ => true) true fuel 69 l = some (d, p) := hf
  obtain ⟨q, rfl⟩ := trod_lb hf
  exact ⟨q, rfl, trivial⟩
set_option maxRecDepth 100000 in
theorem open_op9 {H : Type} {enc : TypeId × Value → H} {W : World} {r : Reach} {b0 : Nat} {v : Value} {d : DataW H} {p : List MemPlace}
    (hv : Value.okWide Tryz.prog W r b0 85 v) (h : DataW.Trod enc Tryz.prog W 0 (fun _ => true) true 85 v d p) :
    ∃ (q : OpL) (a : Option Addr) (n c : Nat), v = .agg #[.int .i64 q.k, .string (bs q.key), .slice a n c] ∧ LbAt W a n c q.l := by
  simp only [Value.okWide, Tryz.underlying85] at hv
  obtain ⟨cs, rfl, hsz, _⟩ := hv
  obtain ⟨fuel, hf⟩ := h
  obtain ⟨l⟩ := cs
  have hf : DataW.trod enc Tryz.prog W 0 (fun _ => true) true fuel 85 l = some (d, p) := hf
  obtain ⟨q, a, n, c, rfl, hl⟩ := trod_op hf
  exact ⟨q, a, n, c, rfl, hl⟩

end Go.Proofs.YtifjbbiphekmmaaGreatDoor
