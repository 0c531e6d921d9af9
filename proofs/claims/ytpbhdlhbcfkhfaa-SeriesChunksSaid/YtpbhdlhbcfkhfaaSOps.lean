/-
  A slice of the statements' own calls (a kind, a sample, a policy), read as a list.
-/
import Derived.Test.YtpbhdlhbcfkhfaaDMath
import Derived.Deep.SlicePairs
import Derived.ProofKit
import Derived.OpenShut
namespace Go.Proofs.Ytpbhdlhbcfkhfaa
open Go.RowKit Go.ChangeShapes Go.WideShapes Go.Deep
set_option linter.unusedVariables false
set_option linter.unusedSimpArgs false

/-- A call: its kind, a time, a value, a policy. -/
abbrev Cl := Int × Int × Int × Int
def Cl64 (x : Cl) : Prop := in64 x.1 ∧ in64 x.2.1 ∧ in64 x.2.2.1 ∧ in64 x.2.2.2
/-- The slice's calls are z. -/
def OpsC (w : World) (a : Option Addr) (len : Nat) (z : List Cl) : Prop :=
  z.length = len ∧ len ≤ 9223372036854775807 ∧ (∀ x ∈ z, Cl64 x) ∧
  (len = 0 ∨ ∃ b off, a = some ⟨b, off, none⟩ ∧ b < w.heap.size ∧ ∀ i (h : i < z.length), w.cell? ⟨b, off + i * 4, none⟩ = some (.int .i64 z[i].1) ∧ w.cell? ⟨b, off + i * 4 + 1, none⟩ = some (.int .i64 z[i].2.1) ∧
    w.cell? ⟨b, off + i * 4 + 2, none⟩ = some (.int .i64 z[i].2.2.1) ∧ w.cell? ⟨b, off + i * 4 + 3, none⟩ = some (.int .i64 z[i].2.2.2))

def opOf (z : List Cl) (i : Nat) : Cl := z.getD i (0, 0, 0, 0)
theorem OpsC.at_ {w : World} {a : Option Addr} {len : Nat} {z : List Cl} (h : OpsC w a len z) (i : Nat) (hi : i < len) :
    ∃ b off, a = some ⟨b, off, none⟩ ∧ b < w.heap.size ∧ w.cell? ⟨b, off + i * 4, none⟩ = some (.int .i64 (opOf z i).1) ∧ w.cell? ⟨b, off + i * 4 + 1, none⟩ = some (.int .i64 (opOf z i).2.1) ∧
      w.cell? ⟨b, off + i * 4 + 2, none⟩ = some (.int .i64 (opOf z i).2.2.1) ∧ w.cell? ⟨b, off + i * 4 + 3, none⟩ = some (.int .i64 (opOf z i).2.2.2) ∧ Cl64 (opOf z i) := by
  obtain ⟨h1, h2, h3, h4⟩ := h
  have e : opOf z i = z[i] := by unfold opOf; rw [List.getD_eq_getElem?_getD, List.getElem?_eq_getElem (by omega), Option.getD_some]
  rcases h4 with h0 | ⟨b, off, rfl, hb, hc⟩
  · omega
  · rw [e]
    obtain ⟨c0, c1, c2, c3⟩ := hc i (by omega)
    exact ⟨b, off, rfl, hb, c0, c1, c2, c3, h3 _ (List.getElem_mem _)⟩

theorem cells_int : Try.prog.cellsOf 3 = 1 := by kernel_rfl
theorem cells_samp : Try.prog.cellsOf 29 = 2 := by kernel_rfl
theorem cells_op : Try.prog.cellsOf 31 = 4 := by kernel_rfl

set_option maxRecDepth 100000 in
theorem open_sops {H : Type} {enc : TypeId × Value → H} {W : World} {a : Option Addr} {len cap : Nat} {d : DataW H} {p : List MemPlace}
    (h : DataW.Trod enc Try.prog W 0 (fun _ => true) true 23 (.slice a len cap) d p) : ∃ z, OpsC W a len z := by
  obtain ⟨fuel, hf⟩ := h
  rcases open_slice Try.underlying23 hf with ⟨hcs, _⟩ | ⟨x, l, c, m, n, D, Pl, hcs, hb, hl, hm, hmm, _, hx⟩
  · simp [Value.cells] at hcs
    obtain ⟨rfl, rfl, rfl⟩ := hcs
    exact ⟨[], rfl, by omega, by simp, .inl rfl⟩
  · simp [Value.cells] at hcs
    obtain ⟨rfl, rfl, rfl⟩ := hcs
    simp only [if_true] at hmm
    have each : ∀ i, i < len → ∃ q : Cl, W.cell? (x.add (i * 4)) = some (.int .i64 q.1) ∧ W.cell? (x.add (i * 4 + 1)) = some (.int .i64 q.2.1) ∧ W.cell? (x.add (i * 4 + 2)) = some (.int .i64 q.2.2.1) ∧ W.cell? (x.add (i * 4 + 3)) = some (.int .i64 q.2.2.2) ∧ Cl64 q := by
      intro i hi
      obtain ⟨cs', h1, h2⟩ := hx i (by omega)
      rw [cells_op] at h1
      obtain ⟨_, hlen, hcell⟩ := World.cells?_some h1
      obtain ⟨xs, k, hk, hxy, _, hxl, hfl⟩ := DataW.trod_struct Try.underlying31 h2
      match xs, hxl, cs', hlen with
      | [y0, y1, y2], _, [v0, v1, v2, v3], _ =>
        have g0 := hfl 0 _ rfl
        have g1 := hfl 1 _ rfl
        have g2 := hfl 2 _ rfl
        simp [cells_int, cells_samp] at g0 g1 g2
        obtain ⟨n0, e0, _, w0⟩ := DataW.trod_int Try.underlying3 g0
        obtain ⟨n2, e2, _, w2⟩ := DataW.trod_int Try.underlying3 g2
        obtain ⟨ys, k2, _, _, _, hyl, hfs⟩ := DataW.trod_struct Try.underlying29 g1
        match ys, hyl with
        | [z0, z1], _ =>
          have s0 := hfs 0 _ rfl
          have s1 := hfs 1 _ rfl
          simp [cells_int] at s0 s1
          obtain ⟨m0, f0, _, u0⟩ := DataW.trod_int Try.underlying3 s0
          obtain ⟨m1, f1, _, u1⟩ := DataW.trod_int Try.underlying3 s1
          have c0 := hcell 0 (by omega)
          have c1 := hcell 1 (by omega)
          have c2 := hcell 2 (by omega)
          have c3 := hcell 3 (by omega)
          rw [add_add] at c0 c1 c2 c3
          simp at e0 e2 f0 f1 c0 c1 c2 c3
          subst e0 e2 f0 f1
          exact ⟨(n0, m0, m1, n2), c0, c1, c2, c3, bounds_i64 w0, bounds_i64 u0, bounds_i64 u1, bounds_i64 w2⟩
    obtain ⟨q, hq⟩ := choose_lt each
    refine ⟨(List.range len).map q, by simp, by unfold maxLen at hm; omega, ?_, ?_⟩
    · intro y hy
      simp at hy
      obtain ⟨i, hi, rfl⟩ := hy
      exact (hq i hi).2.2.2.2
    · by_cases h0 : len = 0
      · exact .inl h0
      · right
        obtain ⟨b, off, spot⟩ := x
        have hs : spot = none := by
          have := (hq 0 (by omega)).1
          simpa [Addr.add] using World.cell?_spot this
        subst hs
        have hb : b < W.heap.size := by
          have := World.block_lt_of_cell? W _ (hq 0 (by omega)).1
          simpa [Addr.add] using this
        refine ⟨b, off, rfl, hb, fun i hi => ?_⟩
        simp at hi
        obtain ⟨c0, c1, c2, c3, _⟩ := hq i hi
        have ha : ∀ k, (⟨b, off, none⟩ : Addr).add k = ⟨b, off + k, none⟩ := by
          intro k; unfold Addr.add; split <;> simp_all
        rw [ha] at c0 c1 c2 c3
        simp only [List.getElem_map, List.getElem_range, Nat.add_assoc]
        exact ⟨c0, c1, c2, c3⟩

theorem OpsC.keep {w w' : World} {a : Option Addr} {len : Nat} {z : List Cl} (h : OpsC w a len z) (hb : Below w.heap.size w w') : OpsC w' a len z := by
  obtain ⟨h1, h2, h3, h4⟩ := h
  refine ⟨h1, h2, h3, ?_⟩
  rcases h4 with h0 | ⟨b, off, rfl, hlt, hc⟩
  · exact .inl h0
  · refine .inr ⟨b, off, rfl, Nat.lt_of_lt_of_le hlt hb.size, fun i hi => ?_⟩
    rw [hb.cell hlt, hb.cell hlt, hb.cell hlt, hb.cell hlt]; exact hc i hi

end Go.Proofs.Ytpbhdlhbcfkhfaa
