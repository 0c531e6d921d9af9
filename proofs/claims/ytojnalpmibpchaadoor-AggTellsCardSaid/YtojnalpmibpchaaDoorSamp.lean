/-
  A slice of samples, read as a list of pairs; rows of samples of the call's own.
-/
import Derived.Test.YtojnalpmibpchaaDoorDMath
import Derived.Deep.SlicePairs
import Derived.ProofKit
import Derived.OpenShut
namespace Go.Proofs.YtojnalpmibpchaaDoor
open Go.RowKit Go.ChangeShapes Go.WideShapes Go.Deep
set_option linter.unusedVariables false
set_option linter.unusedSimpArgs false

/-- The slice's samples are z. -/
def SampAt (w : World) (a : Option Addr) (len cap : Nat) (z : List (Int × Int)) : Prop :=
  z.length = len ∧ len ≤ cap ∧ len ≤ 9223372036854775807 ∧ All64 z ∧
  (len = 0 ∨ ∃ b off, a = some ⟨b, off, none⟩ ∧ b < w.heap.size ∧ ∀ i (h : i < z.length), w.cell? ⟨b, off + i * 2, none⟩ = some (.int .i64 z[i].1) ∧ w.cell? ⟨b, off + i * 2 + 1, none⟩ = some (.int .i64 z[i].2))

theorem SampAt.keep {w w' : World} {a : Option Addr} {len cap : Nat} {z : List (Int × Int)} (h : SampAt w a len cap z) (hb : Below w.heap.size w w') : SampAt w' a len cap z := by
  obtain ⟨h1, h2, h3, h4, h5⟩ := h
  refine ⟨h1, h2, h3, h4, ?_⟩
  rcases h5 with h0 | ⟨b, off, rfl, hlt, hc⟩
  · exact .inl h0
  · exact .inr ⟨b, off, rfl, Nat.lt_of_lt_of_le hlt hb.size, fun i hi => by rw [hb.cell hlt, hb.cell hlt]; exact hc i hi⟩
theorem SampAt.at_ {w : World} {a : Option Addr} {len cap : Nat} {z : List (Int × Int)} (h : SampAt w a len cap z) (i : Nat) (hi : i < len) :
    ∃ b off, a = some ⟨b, off, none⟩ ∧ b < w.heap.size ∧ w.cell? ⟨b, off + i * 2, none⟩ = some (.int .i64 (tOf z i)) ∧ w.cell? ⟨b, off + i * 2 + 1, none⟩ = some (.int .i64 (vOf z i)) := by
  obtain ⟨h1, h2, h3, h4, h5⟩ := h
  rcases h5 with h0 | ⟨b, off, rfl, hlt, hc⟩
  · omega
  · have := hc i (by omega)
    refine ⟨b, off, rfl, hlt, ?_⟩
    unfold tOf vOf
    rw [List.getD_eq_getElem?_getD, List.getElem?_eq_getElem (by omega), Option.getD_some]
    exact this
/-- All places at once. -/
theorem SampAt.all {w : World} {a : Option Addr} {len cap : Nat} {z : List (Int × Int)} (h : SampAt w a len cap z) (h0 : 0 < len) :
    ∃ b off, a = some ⟨b, off, none⟩ ∧ b < w.heap.size ∧ ∀ i, i < len → w.cell? ⟨b, off + i * 2, none⟩ = some (.int .i64 (tOf z i)) ∧ w.cell? ⟨b, off + i * 2 + 1, none⟩ = some (.int .i64 (vOf z i)) := by
  obtain ⟨b, off, rfl, hlt, _⟩ := h.at_ 0 h0
  refine ⟨b, off, rfl, hlt, fun i hi => ?_⟩
  obtain ⟨b', off', e, _, hc⟩ := h.at_ i hi
  simp only [Option.some.injEq, Addr.mk.injEq] at e
  obtain ⟨rfl, rfl, _⟩ := e
  exact hc
theorem SampAt.keep_gb {w w' : World} {a : Option Addr} {len cap : Nat} {z : List (Int × Int)} {row : Option Nat} (h : SampAt w a len cap z) (hg : w.grownBy w' row) (hne : ∀ x, a = some x → some x.block ≠ row) : SampAt w' a len cap z := by
  obtain ⟨h1, h2, h3, h4, h5⟩ := h
  refine ⟨h1, h2, h3, h4, ?_⟩
  rcases h5 with h0 | ⟨b, off, rfl, hlt, hc⟩
  · exact .inl h0
  · have hb := hg.block b hlt (hne _ rfl)
    have hcell : ∀ o, w'.cell? ⟨b, o, none⟩ = w.cell? ⟨b, o, none⟩ := by intro o; simp [World.cell?, hb]
    exact .inr ⟨b, off, rfl, Nat.lt_of_lt_of_le hlt hg.size, fun i hi => by rw [hcell, hcell]; exact hc i hi⟩
theorem SampAt.lt {w : World} {a : Option Addr} {len cap : Nat} {z : List (Int × Int)} (h : SampAt w a len cap z) (h0 : 0 < len) : ∀ x, a = some x → x.block < w.heap.size := by
  obtain ⟨b, off, rfl, hlt, _⟩ := h.at_ 0 h0
  intro x hx
  cases hx
  exact hlt
theorem SampAt.nil (w : World) : SampAt w none 0 0 [] := ⟨rfl, Nat.le_refl _, by omega, by simp [All64], .inl rfl⟩

theorem open_samps {H : Type} {enc : TypeId × Value → H} {W : World} {a : Option Addr} {len cap : Nat} {d : DataW H} {p : List MemPlace}
    (h : DataW.Trod enc Tryd.prog W 0 (fun _ => true) true 40 (.slice a len cap) d p) : ∃ z, SampAt W a len cap z := by
  obtain ⟨fuel, hf⟩ := h
  rcases open_slice_pairs Tryd.underlying40 Tryd.underlying39 (by kernel_rfl) rfl rfl (by kernel_rfl) (by kernel_rfl) hf with ⟨hcs, _⟩ | ⟨x, l, c, m, n, V0, V1, D0, D1, P0, P1, hcs, _, hl, hm, hmm, _, hc⟩
  · simp [Value.cells] at hcs
    obtain ⟨rfl, rfl, rfl⟩ := hcs
    exact ⟨[], SampAt.nil W⟩
  · simp [Value.cells] at hcs
    obtain ⟨rfl, rfl, rfl⟩ := hcs
    simp only [if_true] at hmm
    have hx : ∀ i, i < len → ∃ y : Int × Int, V0 i = .int .i64 y.1 ∧ V1 i = .int .i64 y.2 ∧ in64 y.1 ∧ in64 y.2 := by
      intro i hi
      obtain ⟨_, _, h0, h1⟩ := hc i (by omega)
      obtain ⟨n0, e0, _, w0⟩ := DataW.trod_int Tryd.underlying3 h0
      obtain ⟨n1, e1, _, w1⟩ := DataW.trod_int Tryd.underlying3 h1
      exact ⟨(n0, n1), by simpa using e0, by simpa using e1, bounds_i64 w0, bounds_i64 w1⟩
    obtain ⟨f, hf'⟩ : ∃ f : Nat → Int × Int, ∀ i, i < len → V0 i = .int .i64 (f i).1 ∧ V1 i = .int .i64 (f i).2 ∧ in64 (f i).1 ∧ in64 (f i).2 := by
      refine ⟨fun i => if h : i < len then Classical.choose (hx i h) else (0, 0), fun i hi => ?_⟩
      simp only [dif_pos hi]
      exact Classical.choose_spec (hx i hi)
    refine ⟨(List.range len).map f, by simp, hl, by unfold maxLen at hm; omega, ?_, ?_⟩
    · intro y hy
      simp at hy
      obtain ⟨i, hi, rfl⟩ := hy
      exact (hf' i hi).2.2
    · by_cases h0 : len = 0
      · exact .inl h0
      · right
        obtain ⟨b, off, spot⟩ := x
        have hs : spot = none := by
          have := (hc 0 (by omega)).1
          simpa [Addr.add] using World.cell?_spot this
        subst hs
        have hb : b < W.heap.size := by
          have := World.block_lt_of_cell? W _ (hc 0 (by omega)).1
          simpa [Addr.add] using this
        refine ⟨b, off, rfl, hb, fun i hi => ?_⟩
        simp at hi
        obtain ⟨c0, c1, _, _⟩ := hc i (by omega)
        obtain ⟨e0, e1, _⟩ := hf' i hi
        have ha : ∀ k, (⟨b, off, none⟩ : Addr).add k = ⟨b, off + k, none⟩ := by
          intro k; unfold Addr.add; split <;> simp_all
        rw [ha] at c0 c1
        simp only [List.getElem_map, List.getElem_range]
        rw [e0] at c0
        rw [e1] at c1
        exact ⟨c0, by rw [Nat.add_assoc]; exact c1⟩

/-- What stands behind the first sample. -/
theorem slice_tail (b off len cap : Nat) (h1 : 1 ≤ len) (h2 : len ≤ cap) : ∃ off', (1 < len → off' = off + 2) ∧
    ∀ W : World, (Instr.slice 40 (.slice (some ⟨b, off, none⟩) len cap) (some (.int .i64 1)) none none).run Tryd.prog W = .ok (.slice (some ⟨b, off', none⟩) (len - 1) (cap - 1)) W := by
  have hs : ∀ W : World, (sizeOf (Tryd.prog.elem 40)).run Tryd.prog W = .ok 2 W := fun W => by kernel_rfl
  refine ⟨if cap = 1 then off else off + 2, fun h => by rw [if_neg (by omega)], fun W => ?_⟩
  rw [run_slice_l W 40 _ _ _ (by kernel_rfl) .i64 1 (by omega) (by omega), hs]
  by_cases hc : cap = 1
  · obtain rfl : len = 1 := by omega
    subst hc
    simp [Result.andThen, sliced]
  · simp only [Result.andThen, sliced]
    rw [if_neg (by simp; omega), if_neg hc]
    simp [Addr.add]

/-! Rows of samples. -/
def smpCells (z : List (Int × Int)) : List Value := z.flatMap fun x => [.int .i64 x.1, .int .i64 x.2]
theorem smpCells_length (z : List (Int × Int)) : (smpCells z).length = z.length * 2 := by
  induction z with
  | nil => rfl
  | cons x r ih =>
    have e : smpCells (x :: r) = .int .i64 x.1 :: .int .i64 x.2 :: smpCells r := by simp [smpCells]
    rw [e, List.length_cons, List.length_cons, ih, List.length_cons]; omega
theorem smpCells_snoc (z : List (Int × Int)) (x : Int × Int) : smpCells (z ++ [x]) = smpCells z ++ [.int .i64 x.1, .int .i64 x.2] := by simp [smpCells]
theorem smpCells_get (z : List (Int × Int)) (j : Nat) (h : j < z.length) : (smpCells z)[j * 2]? = some (.int .i64 z[j].1) ∧ (smpCells z)[j * 2 + 1]? = some (.int .i64 z[j].2) := by
  induction z generalizing j with
  | nil => simp at h
  | cons x r ih =>
    have e : smpCells (x :: r) = .int .i64 x.1 :: .int .i64 x.2 :: smpCells r := by simp [smpCells]
    rw [e]
    cases j with
    | zero => simp
    | succ j =>
      have h1 := ih j (by simpa using h)
      rw [show (j + 1) * 2 = j * 2 + 1 + 1 from by omega]
      simpa using h1
theorem smpCells_one (z : List (Int × Int)) : ∀ u ∈ smpCells z, u.oneCell' = true := by
  intro u hu
  simp [smpCells] at hu
  rcases hu with ⟨a, b, _, rfl | rfl⟩ <;> rfl

theorem info_samp : (Tryd.prog.info? 39).map (fun i => (i.zero, i.size, i.bytes)) = some (some (.agg #[.int .i64 0, .int .i64 0]), 2, 16) := by kernel_rfl

/-- A row of the call's own, as a slice of samples. -/
theorem owns_samps {W : World} {base : Nat} {v : Value} {z : List (Int × Int)} (hz : All64 z) (hb : z.length ≤ 9223372036854775807) (hown : W.ownsRow base 39 2 v z.length (smpCells z)) :
    ∃ ad cp, v = .slice ad z.length cp ∧ SampAt W ad z.length cp z ∧ (∀ x, ad = some x → x.off = 0 ∧ base ≤ x.block) := by
  rcases hown.2 with ⟨rfl, h0⟩ | ⟨g, cp, cur, rfl, hgb, hgc, hl, _, hsz, htk⟩
  · have : z = [] := List.eq_nil_of_length_eq_zero h0
    subst this
    exact ⟨none, 0, rfl, SampAt.nil W, by simp⟩
  · refine ⟨_, cp, rfl, ⟨rfl, hl, hb, hz, .inr ⟨g, 0, rfl, heap_lt hgc, fun i hi => ?_⟩⟩, by intro x hx; cases hx; exact ⟨rfl, hgb⟩⟩
    obtain ⟨h1, h2⟩ := smpCells_get z i hi
    rw [← htk, List.getElem?_take, if_pos (by omega), Array.getElem?_toList] at h1 h2
    rw [cell_of hgc, cell_of hgc, Nat.zero_add]
    exact ⟨h1, h2⟩

theorem size_samp (W : World) : (sizeOf (Tryd.prog.elem 40)).run Tryd.prog W = .ok 2 W := by kernel_rfl
/-- The samples from the k-th on. -/
theorem samp_from {w : World} {a : Option Addr} {len cap : Nat} {z : List (Int × Int)} (h : SampAt w a len cap z) (k : Nat) (hk : k ≤ len) :
    ∃ a', (∀ W : World, (Instr.slice 40 (.slice a len cap) (some (.int .i64 (k : Int))) none none).run Tryd.prog W = .ok (.slice a' (len - k) (cap - k)) W) ∧ SampAt w a' (len - k) (cap - k) (z.drop k) := by
  obtain ⟨h1, h2, h3, h4, h5⟩ := h
  refine ⟨if cap = k then a else a.map (·.add (k * 2)), fun W => ?_, ⟨by simp; omega, by omega, by omega, all64_drop h4 k, ?_⟩⟩
  · rw [run_slice_l W 40 _ _ _ (by kernel_rfl) .i64 (k : Int) (by omega) (by omega), size_samp]
    simp [Result.andThen, sliced]
  · by_cases hz : len - k = 0
    · exact .inl hz
    · rcases h5 with h0 | ⟨b, off, rfl, hb, hc⟩
      · omega
      · rw [if_neg (by omega)]
        refine .inr ⟨b, off + k * 2, by simp [Addr.add], hb, fun i hi => ?_⟩
        simp at hi
        have := hc (k + i) (by omega)
        simp only [List.getElem_drop]
        rw [show off + k * 2 + i * 2 = off + (k + i) * 2 from by omega]
        exact this
/-- The first k samples. -/
theorem samp_to {w : World} {a : Option Addr} {len cap : Nat} {z : List (Int × Int)} (h : SampAt w a len cap z) (k : Nat) (hk : k ≤ len) :
    ∃ a', (∀ W : World, (Instr.slice 40 (.slice a len cap) none (some (.int .i64 (k : Int))) none).run Tryd.prog W = .ok (.slice a' k cap) W) ∧ SampAt w a' k cap (z.take k) := by
  obtain ⟨h1, h2, h3, h4, h5⟩ := h
  refine ⟨if cap = 0 then a else a.map (·.add (0 * 2)), fun W => ?_, ⟨by simp; omega, by omega, by omega, all64_take h4 k, ?_⟩⟩
  · rw [run_slice_h W 40 _ _ _ (by kernel_rfl) .i64 (k : Int) (by omega) (by omega), size_samp]
    simp [Result.andThen, sliced]
  · by_cases hz : k = 0
    · exact .inl hz
    · rcases h5 with h0 | ⟨b, off, rfl, hb, hc⟩
      · omega
      · rw [if_neg (by omega)]
        refine .inr ⟨b, off, by simp [Addr.add], hb, fun i hi => ?_⟩
        simp at hi
        simp only [List.getElem_take]
        exact hc i (by omega)

/-- The two cells of a new block. -/
theorem two_cells (W : World) (x y : Value) (t : TypeId) : ∀ j u, [x, y][j]? = some u → (W.alloc (.cells #[x, y] t)).cell? ((⟨W.heap.size, 0, none⟩ : Addr).add j) = some u := by
  intro j u hj
  match j, hj with
  | 0, hj => simp at hj; subst hj; rw [show ((⟨W.heap.size, 0, none⟩ : Addr).add 0) = ⟨W.heap.size, 0, none⟩ from rfl, cell_of (heap_new W _)]; rfl
  | 1, hj => simp at hj; subst hj; rw [show ((⟨W.heap.size, 0, none⟩ : Addr).add 1) = ⟨W.heap.size, 1, none⟩ from rfl, cell_of (heap_new W _)]; rfl

def lenV : Value → Nat
  | .slice _ n _ => n
  | _ => 0
theorem owns_sl {W : World} {base : Nat} {v : Value} {e : TypeId} {k n : Nat} {cs : List Value} (hown : W.ownsRow base e k v n cs) : ∃ ad cp, v = .slice ad n cp := by
  rcases hown.2 with ⟨rfl, rfl⟩ | ⟨g, cp, cur, rfl, _⟩
  · exact ⟨none, 0, rfl⟩
  · exact ⟨_, cp, rfl⟩

end Go.Proofs.YtojnalpmibpchaaDoor
