/-
  How chunks, and lists of samples that nobody writes any more, lie in memory; parts of such lists.
-/
import Derived.Test.YtpbhdlhbcfkhfaaGreatCMath
import Derived.Test.YtpbhdlhbcfkhfaaGreatSamp
namespace Go.Proofs.YtpbhdlhbcfkhfaaGreat
open Go.RowKit
set_option linter.unusedVariables false
set_option linter.unusedSimpArgs false

/-- Block r is no row of samples. -/
def NoSamp (w : World) (r : Nat) : Prop := ∀ (cs : Array Value) (f : Nat × Nat), w.heap[r]? ≠ some (.cells cs 33 f)
theorem noSamp_of {w : World} {b : Nat} {c : Array Value} {t : TypeId} {f : Nat × Nat} (h : w.heap[b]? = some (.cells c t f)) (ht : t ≠ 33) : NoSamp w b := by
  intro c' f' h'
  rw [h] at h'
  simp at h'
  exact ht h'.2.1
theorem NoSamp.past {w : World} {b : Nat} (h : w.heap.size ≤ b) : NoSamp w b := by
  intro c f h'
  have := heap_lt h'
  omega

/-- A slice of samples that lies in a row of samples. -/
def Lst (w : World) (a : Option Addr) (len cap : Nat) (z : List (Int × Int)) : Prop :=
  SampAt w a len cap z ∧ (len = 0 ∨ ∃ x cs f, a = some x ∧ w.heap[x.block]? = some (.cells cs 33 f))
theorem Lst.nil (w : World) : Lst w none 0 0 [] := ⟨SampAt.nil w, .inl rfl⟩
theorem Lst.len {w : World} {a : Option Addr} {len cap : Nat} {z : List (Int × Int)} (h : Lst w a len cap z) : z.length = len := h.1.1
theorem Lst.all64 {w : World} {a : Option Addr} {len cap : Nat} {z : List (Int × Int)} (h : Lst w a len cap z) : All64 z := h.1.2.2.2.1
theorem Lst.keep {w w' : World} {a : Option Addr} {len cap : Nat} {z : List (Int × Int)} {row : Option Nat} (h : Lst w a len cap z) (g : w.grownBy w' row) (hr : ∀ r, row = some r → NoSamp w r) : Lst w' a len cap z := by
  obtain ⟨h1, h2⟩ := h
  rcases h2 with h0 | ⟨x, cs, f, rfl, hx⟩
  · refine ⟨?_, .inl h0⟩
    obtain ⟨a1, a2, a3, a4, _⟩ := h1
    exact ⟨a1, a2, a3, a4, .inl h0⟩
  · have hne : some x.block ≠ row := fun e => hr x.block e.symm cs f hx
    exact ⟨h1.keep_gb g (fun y hy => by cases hy; exact hne), .inr ⟨x, cs, f, rfl, by rw [g.block _ (heap_lt hx) hne]; exact hx⟩⟩
theorem Lst.keepN {w w' : World} {a : Option Addr} {len cap : Nat} {z : List (Int × Int)} (h : Lst w a len cap z) (g : w.grownBy w' none) : Lst w' a len cap z := h.keep g (by simp)
theorem Lst.keepB {w w' : World} {a : Option Addr} {len cap : Nat} {z : List (Int × Int)} (h : Lst w a len cap z) (g : Below w.heap.size w w') : Lst w' a len cap z := h.keepN (gb_below g)

/-- A chunk (of the type ty) lies in block b. -/
def CAt (ty : TypeId) (w : World) (b : Nat) (sz : Int) (z : List (Int × Int)) : Prop :=
  ∃ a cap, w.heap[b]? = some (.cells #[.int .i64 sz, .slice a z.length cap] ty (0, 0)) ∧ Lst w a z.length cap z
theorem CAt.lt {ty : TypeId} {w : World} {b : Nat} {sz : Int} {z : List (Int × Int)} (h : CAt ty w b sz z) : b < w.heap.size := by
  obtain ⟨a, cap, hc, _⟩ := h; exact heap_lt hc
theorem CAt.no {ty : TypeId} {w : World} {b : Nat} {sz : Int} {z : List (Int × Int)} (h : CAt ty w b sz z) (ht : ty ≠ 33) : NoSamp w b := by
  obtain ⟨a, cap, hc, _⟩ := h; exact noSamp_of hc ht
theorem CAt.all64 {ty : TypeId} {w : World} {b : Nat} {sz : Int} {z : List (Int × Int)} (h : CAt ty w b sz z) : All64 z := by
  obtain ⟨a, cap, _, hl⟩ := h; exact hl.all64
theorem CAt.keep {ty : TypeId} {w w' : World} {b r : Nat} {sz : Int} {z : List (Int × Int)} (h : CAt ty w b sz z) (g : w.grownBy w' (some r)) (hne : b ≠ r) (hr : NoSamp w r) : CAt ty w' b sz z := by
  obtain ⟨a, cap, hc, hl⟩ := h
  exact ⟨a, cap, by rw [g.block b (heap_lt hc) (by simp; exact hne)]; exact hc, hl.keep g (by intro s e; cases e; exact hr)⟩
theorem CAt.keepN {ty : TypeId} {w w' : World} {b : Nat} {sz : Int} {z : List (Int × Int)} (h : CAt ty w b sz z) (g : w.grownBy w' none) : CAt ty w' b sz z := by
  obtain ⟨a, cap, hc, hl⟩ := h
  exact ⟨a, cap, by rw [g.block b (heap_lt hc) (by simp)]; exact hc, hl.keepN g⟩
theorem CAt.keepB {ty : TypeId} {w w' : World} {b : Nat} {sz : Int} {z : List (Int × Int)} (h : CAt ty w b sz z) (g : Below w.heap.size w w') : CAt ty w' b sz z := h.keepN (gb_below g)
/-- A store of another list. -/
theorem CAt.set {ty : TypeId} {w : World} {b : Nat} {sz : Int} {v : Value} {a : Option Addr} {cap : Nat} {z : List (Int × Int)} (hc : w.heap[b]? = some (.cells #[.int .i64 sz, v] ty (0, 0))) (hl : Lst w a z.length cap z) (ht : ty ≠ 33) :
    CAt ty (w.setCell ⟨b, 1, none⟩ (.slice a z.length cap)) b sz z :=
  ⟨a, cap, by rw [heap_set hc]; rfl, hl.keep (row := some b) (gb_set (gb_refl _ _) _ _) (by intro r e; cases e; exact noSamp_of hc ht)⟩
/-- A new one. -/
theorem CAt.new (ty : TypeId) (w : World) (sz : Int) (a : Option Addr) (cap : Nat) (z : List (Int × Int)) (hl : Lst w a z.length cap z) :
    CAt ty (w.alloc (.cells #[.int .i64 sz, .slice a z.length cap] ty)) w.heap.size sz z :=
  ⟨a, cap, heap_new w _, hl.keepN (World.grownBy_alloc w _ none)⟩

theorem size_samp (W : World) : (sizeOf (Tryz.prog.elem 53)).run Tryz.prog W = .ok 2 W := by kernel_rfl

/-- The samples from the k-th on. -/
theorem lst_from {w : World} {a : Option Addr} {len cap : Nat} {z : List (Int × Int)} (h : Lst w a len cap z) (k : Nat) (hk : k ≤ len) :
    ∃ a', (∀ W : World, (Instr.slice 53 (.slice a len cap) (some (.int .i64 (k : Int))) none none).run Tryz.prog W = .ok (.slice a' (len - k) (cap - k)) W) ∧ Lst w a' (len - k) (cap - k) (z.drop k) := by
  obtain ⟨⟨h1, h2, h3, h4, h5⟩, h6⟩ := h
  refine ⟨if cap = k then a else a.map (·.add (k * 2)), fun W => ?_, ⟨⟨by simp; omega, by omega, by omega, all64_drop h4 k, ?_⟩, ?_⟩⟩
  · rw [run_slice_l W 53 _ _ _ (by kernel_rfl) .i64 (k : Int) (by omega) (by omega), size_samp]
    simp [Result.andThen, sliced]
  · by_cases hz : len - k = 0
    · exact .inl hz
    · rcases h5 with h0 | ⟨b, off, rfl, hb, hc⟩
      · omega
      · rw [if_neg (by omega)]
        refine .inr ⟨b, off + k * 2, by simp [Addr.add], hb, fun i hi => ?_⟩
        simp at hi
        have := hc (k + i) (by omega)
        simp only [List.getElem_drop]
        rw [show off + k * 2 + i * 2 = off + (k + i) * 2 from by omega]
        exact this
  · by_cases hz : len - k = 0
    · exact .inl hz
    · rcases h6 with h0 | ⟨x, cs, f, rfl, hx⟩
      · omega
      · rw [if_neg (by omega)]
        refine .inr ⟨x.add (k * 2), cs, f, by simp, ?_⟩
        rw [show (x.add (k * 2)).block = x.block from by unfold Addr.add; split <;> rfl]; exact hx
/-- The first k samples. -/
theorem lst_to {w : World} {a : Option Addr} {len cap : Nat} {z : List (Int × Int)} (h : Lst w a len cap z) (k : Nat) (hk : k ≤ len) :
    ∃ a', (∀ W : World, (Instr.slice 53 (.slice a len cap) none (some (.int .i64 (k : Int))) none).run Tryz.prog W = .ok (.slice a' k cap) W) ∧ Lst w a' k cap (z.take k) := by
  obtain ⟨⟨h1, h2, h3, h4, h5⟩, h6⟩ := h
  refine ⟨if cap = 0 then a else a.map (·.add (0 * 2)), fun W => ?_, ⟨⟨by simp; omega, by omega, by omega, all64_take h4 k, ?_⟩, ?_⟩⟩
  · rw [run_slice_h W 53 _ _ _ (by kernel_rfl) .i64 (k : Int) (by omega) (by omega), size_samp]
    simp [Result.andThen, sliced]
  · by_cases hz : k = 0
    · exact .inl hz
    · rcases h5 with h0 | ⟨b, off, rfl, hb, hc⟩
      · omega
      · rw [if_neg (by omega)]
        refine .inr ⟨b, off, by simp [Addr.add], hb, fun i hi => ?_⟩
        simp at hi
        simp only [List.getElem_take]
        exact hc i (by omega)
  · by_cases hz : k = 0
    · exact .inl hz
    · rcases h6 with h0 | ⟨x, cs, f, rfl, hx⟩
      · omega
      · rw [if_neg (by omega)]
        refine .inr ⟨x.add (0 * 2), cs, f, by simp, ?_⟩
        rw [show (x.add (0 * 2)).block = x.block from by unfold Addr.add; split <;> rfl]; exact hx

end Go.Proofs.YtpbhdlhbcfkhfaaGreat
