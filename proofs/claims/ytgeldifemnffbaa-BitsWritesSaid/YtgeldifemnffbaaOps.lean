/-
  A slice of the statements' own pairs (a number, a count of bits), read as a list; what of them finds room, and the bits of those.
-/
import Derived.Test.YtgeldifemnffbaaUse
import Derived.Deep.SlicePairs
import Derived.ProofKit
import Derived.OpenShut
namespace Go.Proofs.Ytgeldifemnffbaa
open Go.RowKit Go.ChangeShapes Go.WideShapes Go.Deep
set_option linter.unusedVariables false

/-- The slice's elements are z. -/
def OpsAt (w : World) (a : Option Addr) (len : Nat) (z : List (Nat × Int)) : Prop :=
  z.length = len ∧ len ≤ 9223372036854775807 ∧ (∀ x ∈ z, x.1 < 18446744073709551616) ∧ (∀ x ∈ z, -9223372036854775808 ≤ x.2 ∧ x.2 ≤ 9223372036854775807) ∧
  (len = 0 ∨ ∃ b off, a = some ⟨b, off, none⟩ ∧ b < w.heap.size ∧ ∀ i (h : i < z.length), w.cell? ⟨b, off + i * 2, none⟩ = some (.int .u64 (z[i].1 : Int)) ∧ w.cell? ⟨b, off + i * 2 + 1, none⟩ = some (.int .i64 z[i].2))

theorem open_ops {H : Type} {enc : TypeId × Value → H} {W : World} {a : Option Addr} {len cap : Nat} {d : DataW H} {p : List MemPlace}
    (h : DataW.Trod enc Try.prog W 0 (fun _ => true) true 22 (.slice a len cap) d p) : ∃ z, OpsAt W a len z := by
  obtain ⟨fuel, hf⟩ := h
  rcases open_slice_pairs Try.underlying22 Try.underlying30 (by kernel_rfl) rfl rfl (by kernel_rfl) (by kernel_rfl) hf with ⟨hcs, _⟩ | ⟨x, l, c, m, n, V0, V1, D0, D1, P0, P1, hcs, _, hl, hm, hmm, _, hc⟩
  · simp [Value.cells] at hcs
    obtain ⟨rfl, rfl, rfl⟩ := hcs
    exact ⟨[], rfl, by omega, by simp, by simp, .inl rfl⟩
  · simp [Value.cells] at hcs
    obtain ⟨rfl, rfl, rfl⟩ := hcs
    simp only [if_true] at hmm
    have hx : ∀ i, i < len → ∃ y : Nat × Int, V0 i = .int .u64 (y.1 : Int) ∧ V1 i = .int .i64 y.2 ∧ y.1 < 18446744073709551616 ∧ (-9223372036854775808 ≤ y.2 ∧ y.2 ≤ 9223372036854775807) := by
      intro i hi
      obtain ⟨_, _, h0, h1⟩ := hc i (by omega)
      obtain ⟨n0, e0, _, w0⟩ := DataW.trod_int Try.underlying25 h0
      obtain ⟨n1, e1, _, w1⟩ := DataW.trod_int Try.underlying3 h1
      have b0 := bounds_u64 w0
      obtain ⟨k, rfl⟩ := Int.eq_ofNat_of_zero_le b0.1
      exact ⟨(k, n1), by simpa using e0, by simpa using e1, by simp; omega, bounds_i64 w1⟩
    obtain ⟨f, hf'⟩ : ∃ f : Nat → Nat × Int, ∀ i, i < len → V0 i = .int .u64 ((f i).1 : Int) ∧ V1 i = .int .i64 (f i).2 ∧ (f i).1 < 18446744073709551616 ∧ (-9223372036854775808 ≤ (f i).2 ∧ (f i).2 ≤ 9223372036854775807) := by
      refine ⟨fun i => if h : i < len then Classical.choose (hx i h) else (0, 0), fun i hi => ?_⟩
      simp only [dif_pos hi]
      exact Classical.choose_spec (hx i hi)
    refine ⟨(List.range len).map f, by simp, by unfold maxLen at hm; omega, ?_, ?_, ?_⟩
    · intro y hy
      simp at hy
      obtain ⟨i, hi, rfl⟩ := hy
      exact (hf' i hi).2.2.1
    · intro y hy
      simp at hy
      obtain ⟨i, hi, rfl⟩ := hy
      exact (hf' i hi).2.2.2
    · by_cases h0 : len = 0
      · exact .inl h0
      · right
        obtain ⟨b, off, spot⟩ := x
        have hs : spot = none := by
          have := (hc 0 (by omega)).1
          simpa [Addr.add] using World.cell?_spot this
        subst hs
        have hb : b < W.heap.size := by
          have := World.block_lt_of_cell? W _ (hc 0 (by omega)).1
          simpa [Addr.add] using this
        refine ⟨b, off, rfl, hb, fun i hi => ?_⟩
        simp at hi
        obtain ⟨c0, c1, _, _⟩ := hc i (by omega)
        obtain ⟨e0, e1, _⟩ := hf' i hi
        have ha : ∀ k, (⟨b, off, none⟩ : Addr).add k = ⟨b, off + k, none⟩ := by
          intro k; unfold Addr.add; split <;> simp_all
        rw [ha] at c0 c1
        simp only [List.getElem_map, List.getElem_range]
        rw [e0] at c0
        rw [e1] at c1
        exact ⟨c0, by rw [Nat.add_assoc]; exact c1⟩

/-- Those that find room. -/
def okOps (z : List (Nat × Int)) : List (Nat × Int) := z.filter fun x => fits x.1 x.2
def bitsAll (z : List (Nat × Int)) : List Bool := z.flatMap fun x => bitsOf x.1 x.2.toNat
def opCells (z : List (Nat × Int)) : List Value := z.flatMap fun x => [.int .u64 (x.1 : Int), .int .i64 x.2]

theorem opCells_length (z : List (Nat × Int)) : (opCells z).length = z.length * 2 := by
  induction z with
  | nil => rfl
  | cons x r ih =>
    have e : opCells (x :: r) = .int .u64 (x.1 : Int) :: .int .i64 x.2 :: opCells r := by simp [opCells]
    rw [e, List.length_cons, List.length_cons, ih, List.length_cons]; omega
theorem opCells_snoc (z : List (Nat × Int)) (x : Nat × Int) : opCells (z ++ [x]) = opCells z ++ [.int .u64 (x.1 : Int), .int .i64 x.2] := by simp [opCells]
theorem bitsAll_snoc (z : List (Nat × Int)) (x : Nat × Int) : bitsAll (z ++ [x]) = bitsAll z ++ bitsOf x.1 x.2.toNat := by simp [bitsAll]
theorem take_succ_ops (z : List (Nat × Int)) (j : Nat) (h : j < z.length) : z.take (j + 1) = z.take j ++ [z[j]] := List.take_succ_eq_append_getElem h
theorem okOps_yes (z : List (Nat × Int)) (j : Nat) (h : j < z.length) (hf : fits z[j].1 z[j].2 = true) : okOps (z.take (j + 1)) = okOps (z.take j) ++ [z[j]] := by
  rw [take_succ_ops z j h, okOps, List.filter_append]; simp [okOps, hf]
theorem okOps_no (z : List (Nat × Int)) (j : Nat) (h : j < z.length) (hf : fits z[j].1 z[j].2 = false) : okOps (z.take (j + 1)) = okOps (z.take j) := by
  rw [take_succ_ops z j h, okOps, List.filter_append]; simp [okOps, hf]
theorem okOps_len (z : List (Nat × Int)) (j : Nat) : (okOps (z.take j)).length ≤ j :=
  Nat.le_trans (List.length_filter_le _ _) (List.length_take_le _ _)
theorem bitsAll_len (z : List (Nat × Int)) (h : ∀ x ∈ z, fits x.1 x.2 = true) : (bitsAll z).length ≤ 64 * z.length := by
  induction z with
  | nil => simp [bitsAll]
  | cons x r ih =>
    have h1 := ih fun y hy => h y (by simp [hy])
    have h2 : 0 ≤ x.2 ∧ x.2 ≤ 64 ∧ x.1 < 2 ^ x.2.toNat := by simpa [fits] using h x (by simp)
    simp only [bitsAll, List.flatMap_cons, List.length_append, bitsOf_length, List.length_cons] at *
    omega
theorem okOps_fits (z : List (Nat × Int)) : ∀ x ∈ okOps z, fits x.1 x.2 = true := by
  intro x hx
  simp [okOps] at hx
  exact hx.2
theorem okOps_bits (z : List (Nat × Int)) (j : Nat) (hj : j ≤ 60) : (bitsAll (okOps (z.take j))).length ≤ 3840 := by
  have h1 := bitsAll_len _ (okOps_fits (z.take j))
  have h2 := okOps_len z j
  omega
theorem opCells_get (z : List (Nat × Int)) (j : Nat) (h : j < z.length) : (opCells z)[j * 2]? = some (.int .u64 (z[j].1 : Int)) ∧ (opCells z)[j * 2 + 1]? = some (.int .i64 z[j].2) := by
  induction z generalizing j with
  | nil => simp at h
  | cons x r ih =>
    have e : opCells (x :: r) = .int .u64 (x.1 : Int) :: .int .i64 x.2 :: opCells r := by simp [opCells]
    rw [e]
    cases j with
    | zero => simp
    | succ j =>
      have h1 := ih j (by simpa using h)
      rw [show (j + 1) * 2 = j * 2 + 1 + 1 from by omega]
      simpa using h1
theorem bitsAll_take (z : List (Nat × Int)) (j : Nat) (h : j < z.length) : bitsAll (z.take (j + 1)) = bitsAll (z.take j) ++ bitsOf z[j].1 z[j].2.toNat := by
  rw [take_succ_ops z j h, bitsAll_snoc]
/-- What is read where the first j stand is the next one's number. -/
theorem bitsAll_read (z : List (Nat × Int)) (j : Nat) (h : j < z.length) (hf : fits z[j].1 z[j].2 = true) :
    num (((bitsAll z).drop (bitsAll (z.take j)).length).take z[j].2.toNat) = z[j].1 ∧ (bitsAll (z.take j)).length + z[j].2.toNat ≤ (bitsAll z).length := by
  have hf' : 0 ≤ z[j].2 ∧ z[j].2 ≤ 64 ∧ z[j].1 < 2 ^ z[j].2.toNat := by simpa [fits] using hf
  have e : bitsAll z = bitsAll (z.take j) ++ (bitsOf z[j].1 z[j].2.toNat ++ bitsAll (z.drop (j + 1))) := by
    rw [← List.append_assoc, ← bitsAll_take z j h]
    have e2 : bitsAll (z.take (j + 1) ++ z.drop (j + 1)) = bitsAll (z.take (j + 1)) ++ bitsAll (z.drop (j + 1)) := by
      unfold bitsAll; rw [List.flatMap_append]
    rw [List.take_append_drop] at e2
    exact e2
  constructor
  · conv => lhs; rw [e]
    rw [List.drop_left, List.take_append_of_le_length (by rw [bitsOf_length]; exact Nat.le_refl _), List.take_of_length_le (by rw [bitsOf_length]; exact Nat.le_refl _)]
    exact num_bitsOf_lt hf'.2.2
  · conv => rhs; rw [e]
    simp [bitsOf_length]

end Go.Proofs.Ytgeldifemnffbaa
