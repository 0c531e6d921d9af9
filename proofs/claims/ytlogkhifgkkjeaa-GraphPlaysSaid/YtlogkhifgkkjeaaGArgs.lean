/-
  The arguments of layer 11's statements, read: a slice of calls (a kind, a rule), a rule.
-/
import Derived.Test.YtlogkhifgkkjeaaGMem
import Derived.ChangeSlices
import Derived.Deep.Slices
import Derived.Deep.SlicePairs
import Derived.ProofKit
import Derived.OpenShut
import Derived.SliceStrings
namespace Go.Proofs.Ytlogkhifgkkjeaa
open Go.RowKit Go.ChangeShapes Go.WideShapes Go.ChangeAt Go.Deep
set_option linter.unusedVariables false
set_option linter.unusedSimpArgs false

theorem laidOut : laidOutB Try.prog = true := by kernel_rfl
theorem cells_int11 : Try.prog.cellsOf 3 = 1 := by kernel_rfl
theorem cells_str11 : Try.prog.cellsOf 9 = 1 := by kernel_rfl
theorem cells_ru11 : Try.prog.cellsOf 31 = 5 := by kernel_rfl
theorem cells_op11 : Try.prog.cellsOf 33 = 6 := by kernel_rfl

set_option maxRecDepth 100000 in
theorem trod_ru {H : Type} {enc : TypeId × Value → H} {W : World} {fuel : Nat} {cs : List Value} {x : DataW H × List MemPlace}
    (hf : DataW.trod enc Try.prog W 0 (fun _ => true) true fuel 31 cs = some x) : ∃ q : Ru, cs = [.string (bs q.src), .string (bs q.dst), .int .i64 q.kind, .int .i64 q.size, .int .i64 q.align] := by
  obtain ⟨xs, k, hk, hxy, hl, hxl, hfl⟩ := DataW.trod_struct Try.underlying31 hf
  rw [cells_ru11] at hl
  match xs, hxl, cs, hl with
  | [y0, y1, y2, y3, y4], _, [v0, v1, v2, v3, v4], _ =>
    have g0 := hfl 0 _ rfl
    have g1 := hfl 1 _ rfl
    have g2 := hfl 2 _ rfl
    have g3 := hfl 3 _ rfl
    have g4 := hfl 4 _ rfl
    simp [cells_str11, cells_int11] at g0 g1 g2 g3 g4
    obtain ⟨s0, e0, _⟩ := DataW.trod_string Try.underlying9 g0
    obtain ⟨s1, e1, _⟩ := DataW.trod_string Try.underlying9 g1
    obtain ⟨n2, e2, _, w2⟩ := DataW.trod_int Try.underlying3 g2
    obtain ⟨n3, e3, _, w3⟩ := DataW.trod_int Try.underlying3 g3
    obtain ⟨n4, e4, _, w4⟩ := DataW.trod_int Try.underlying3 g4
    simp at e0 e1 e2 e3 e4
    subst e0 e1 e2 e3 e4
    exact ⟨⟨tx s0, tx s1, n2, n3, n4⟩, by simp [bs_tx]⟩

/-- A call: a kind, a rule. -/
structure OpG where
  k : Int
  r : Ru
instance : Inhabited OpG := ⟨⟨0, zeroU⟩⟩
def opG (z : List OpG) (i : Nat) : OpG := z.getD i ⟨0, zeroU⟩
def OpAt (w : World) (a : Option Addr) (len cap : Nat) (z : List OpG) : Prop :=
  z.length = len ∧ len ≤ 9223372036854775807 ∧
  (len = 0 ∨ ∃ b off, a = some ⟨b, off, none⟩ ∧ b < w.heap.size ∧ ∀ i, i < len → w.cell? ⟨b, off + i * 6, none⟩ = some (.int .i64 (opG z i).k) ∧ U5 w b (off + i * 6 + 1) (opG z i).r)
theorem OpAt.tu {w w' : World} {a : Option Addr} {n c : Nat} {z : List OpG} (h : OpAt w a n c z) {F : Nat → Prop} (t : Tu F w w') (hF : ∀ ad, a = some ad → ¬ F ad.block) : OpAt w' a n c z := by
  obtain ⟨h1, h3, h5⟩ := h
  refine ⟨h1, h3, ?_⟩
  rcases h5 with h0 | ⟨b, off, rfl, hlt, hc⟩
  · exact .inl h0
  · exact .inr ⟨b, off, rfl, Nat.lt_of_lt_of_le hlt t.size, fun i hi => ⟨t.cell (hc i hi).1 (hF ⟨b, off, none⟩ rfl), (hc i hi).2.tu t (hF ⟨b, off, none⟩ rfl)⟩⟩
theorem OpAt.keep {w w' : World} {a : Option Addr} {n c : Nat} {z : List OpG} (h : OpAt w a n c z) (hb : Below w.heap.size w w') : OpAt w' a n c z := h.tu (F := fun _ => False) (.of hb) (fun _ _ f => f)
theorem OpAt.at_ {w : World} {a : Option Addr} {n c : Nat} {z : List OpG} (h : OpAt w a n c z) (i : Nat) (hi : i < n) :
    ∃ b off, a = some ⟨b, off, none⟩ ∧ b < w.heap.size ∧ w.cell? ⟨b, off + i * 6, none⟩ = some (.int .i64 (opG z i).k) ∧ U5 w b (off + i * 6 + 1) (opG z i).r := by
  obtain ⟨h1, h3, h5⟩ := h
  rcases h5 with h0 | ⟨b, off, rfl, hlt, hc⟩
  · omega
  · exact ⟨b, off, rfl, hlt, hc i hi⟩

set_option maxRecDepth 100000 in
theorem trod_op {H : Type} {enc : TypeId × Value → H} {W : World} {fuel : Nat} {cs : List Value} {x : DataW H × List MemPlace}
    (hf : DataW.trod enc Try.prog W 0 (fun _ => true) true fuel 33 cs = some x) : ∃ q : OpG, cs = [.int .i64 q.k, .string (bs q.r.src), .string (bs q.r.dst), .int .i64 q.r.kind, .int .i64 q.r.size, .int .i64 q.r.align] := by
  obtain ⟨xs, k, hk, hxy, hl, hxl, hfl⟩ := DataW.trod_struct Try.underlying33 hf
  rw [cells_op11] at hl
  match xs, hxl, cs, hl with
  | [y0, y1], _, [v0, v1, v2, v3, v4, v5], _ =>
    have g0 := hfl 0 _ rfl
    have g1 := hfl 1 _ rfl
    simp [cells_int11, cells_ru11] at g0 g1
    obtain ⟨n0, e0, _, w0⟩ := DataW.trod_int Try.underlying3 g0
    obtain ⟨q, e1⟩ := trod_ru g1
    simp at e0 e1
    obtain ⟨e1, e2, e3, e4, e5⟩ := e1
    subst e0 e1 e2 e3 e4 e5
    exact ⟨⟨n0, q⟩, rfl⟩

theorem open_ops11 {H : Type} {enc : TypeId × Value → H} {W : World} {a : Option Addr} {len cap : Nat} {d : DataW H} {p : List MemPlace}
    (h : DataW.Trod enc Try.prog W 0 (fun _ => true) true 22 (.slice a len cap) d p) : ∃ z, OpAt W a len cap z := by
  obtain ⟨fuel, hf⟩ := h
  rcases open_slice Try.underlying22 hf with ⟨hcs, _⟩ | ⟨x, l, c, m, n, D, Pl, hcs, hb, hl, hm, hmm, _, hx⟩
  · simp [Value.cells] at hcs
    obtain ⟨rfl, rfl, rfl⟩ := hcs
    exact ⟨[], rfl, by omega, .inl rfl⟩
  · simp [Value.cells] at hcs
    obtain ⟨rfl, rfl, rfl⟩ := hcs
    simp only [if_true] at hmm
    have each : ∀ i, i < len → ∃ q : OpG, W.cell? (x.add (i * 6)) = some (.int .i64 q.k) ∧ W.cell? (x.add (i * 6 + 1)) = some (.string (bs q.r.src)) ∧ W.cell? (x.add (i * 6 + 2)) = some (.string (bs q.r.dst)) ∧ W.cell? (x.add (i * 6 + 3)) = some (.int .i64 q.r.kind) ∧ W.cell? (x.add (i * 6 + 4)) = some (.int .i64 q.r.size) ∧ W.cell? (x.add (i * 6 + 5)) = some (.int .i64 q.r.align) := by
      intro i hi
      obtain ⟨cs', h1, h2⟩ := hx i (by omega)
      rw [cells_op11] at h1
      obtain ⟨_, hlen, hcell⟩ := World.cells?_some h1
      obtain ⟨q, rfl⟩ := trod_op h2
      have c0 := hcell 0 (by omega)
      have c1 := hcell 1 (by omega)
      have c2 := hcell 2 (by omega)
      have c3 := hcell 3 (by omega)
      have c4 := hcell 4 (by omega)
      have c5 := hcell 5 (by omega)
      rw [add_add] at c0 c1 c2 c3 c4 c5
      simp at c0 c1 c2 c3 c4 c5
      exact ⟨q, c0, c1, c2, c3, c4, c5⟩
    obtain ⟨q, hq⟩ := choose_lt each
    refine ⟨(List.range len).map q, by simp, by unfold maxLen at hm; omega, ?_⟩
    by_cases h0 : len = 0
    · exact .inl h0
    · right
      obtain ⟨b, off, spot⟩ := x
      have hs : spot = none := by
        have := (hq 0 (by omega)).1
        simpa [Addr.add] using World.cell?_spot this
      subst hs
      have hbl : b < W.heap.size := by
        have := World.block_lt_of_cell? W _ (hq 0 (by omega)).1
        simpa [Addr.add] using this
      refine ⟨b, off, rfl, hbl, fun i hi => ?_⟩
      obtain ⟨c0, c1, c2, c3, c4, c5⟩ := hq i hi
      have ha : ∀ k, (⟨b, off, none⟩ : Addr).add k = ⟨b, off + k, none⟩ := by
        intro k; unfold Addr.add; split <;> simp_all
      rw [ha] at c0 c1 c2 c3 c4 c5
      have e : opG ((List.range len).map q) i = q i := by
        unfold opG
        rw [List.getD_eq_getElem?_getD, List.getElem?_map, List.getElem?_range hi]; rfl
      rw [e]
      exact ⟨c0, ⟨by rw [Nat.add_assoc]; exact c1, by rw [Nat.add_assoc, Nat.add_assoc]; exact c2, by rw [Nat.add_assoc, Nat.add_assoc]; exact c3, by rw [Nat.add_assoc, Nat.add_assoc]; exact c4, by rw [Nat.add_assoc, Nat.add_assoc]; exact c5⟩⟩

set_option maxRecDepth 100000 in
theorem open_ru11 {H : Type} {enc : TypeId × Value → H} {W : World} {r : Reach} {b0 : Nat} {v : Value} {d : DataW H} {p : List MemPlace}
    (hv : Value.okWide Try.prog W r b0 31 v) (h : DataW.Trod enc Try.prog W 0 (fun _ => true) true 31 v d p) :
    ∃ q : Ru, v = ruV q ∧ True := by
  simp only [Value.okWide, Try.underlying31] at hv
  obtain ⟨cs, rfl, hsz, _⟩ := hv
  obtain ⟨fuel, hf⟩ := h
  obtain ⟨l⟩ := cs
  have hf : DataW.trod enc Try.prog W 0 (fun _ => true) true fuel 31 l = some (d, p) := hf
  obtain ⟨q, rfl⟩ := trod_ru hf
  exact ⟨q, rfl, trivial⟩

end Go.Proofs.Ytlogkhifgkkjeaa
