/-
  Worlds in which maps have turned, and no rows of cells.
-/
import Derived.Test.YtlogkhifgkkjeaaEMem
namespace Go.Proofs.Ytlogkhifgkkjeaa
open Go.RowKit
set_option linter.unusedVariables false
set_option linter.unusedSimpArgs false

abbrev mp (b : Nat) : Value := .map (some b)
/-- Of what was there, only blocks of F have turned, and no rows of cells. -/
structure Trn (F : Nat → Prop) (w w' : World) : Prop where
  os : w'.os = w.os
  tape : w'.tape = w.tape
  output : w'.output = w.output
  size : w.heap.size ≤ w'.heap.size
  block : ∀ i, i < w.heap.size → ¬ F i → w'.heap[i]? = w.heap[i]?
  cells : ∀ (i : Nat) (c : Array Value) (t : TypeId) (f : Nat × Nat), w.heap[i]? = some (.cells c t f) → w'.heap[i]? = some (.cells c t f)
theorem Trn.refl (F : Nat → Prop) (w : World) : Trn F w w := ⟨rfl, rfl, rfl, Nat.le_refl _, fun _ _ _ => rfl, fun _ _ _ _ h => h⟩
theorem Trn.of {F : Nat → Prop} {w w' : World} (h : Below w.heap.size w w') : Trn F w w' :=
  ⟨h.os, h.tape, h.output, h.size, fun i hi _ => h.block i hi, fun i c t f e => (h.block i (heap_lt e)).trans e⟩
theorem Trn.trans {F G : Nat → Prop} {a b c : World} (h : Trn F a b) (k : Trn G b c) (hG : ∀ i, i < a.heap.size → G i → F i) : Trn F a c :=
  ⟨k.os.trans h.os, k.tape.trans h.tape, k.output.trans h.output, Nat.le_trans h.size k.size,
   fun i hi hf => (k.block i (Nat.lt_of_lt_of_le hi h.size) (fun g => hf (hG i hi g))).trans (h.block i hi hf), fun i c t f e => k.cells i c t f (h.cells i c t f e)⟩
theorem Trn.mono {F G : Nat → Prop} {a b : World} (h : Trn F a b) (hG : ∀ i, i < a.heap.size → F i → G i) : Trn G a b :=
  ⟨h.os, h.tape, h.output, h.size, fun i hi g => h.block i hi (fun f => g (hG i hi f)), h.cells⟩
theorem Trn.thenB {F : Nat → Prop} {a b c : World} (h : Trn F a b) (k : Below b.heap.size b c) : Trn F a c := h.trans (G := fun _ => False) (.of k) (fun _ _ g => g.elim)
/-- A map that has turned. -/
theorem Trn.map {F : Nat → Prop} {w w' : World} {b : Nat} (g : w.grownBy w' (some b)) (hb : F b) (hm : ∃ es c, w.heap[b]? = some (.map es c)) : Trn F w w' :=
  ⟨g.os, g.tape, g.output, g.size, fun i hi hf => g.block i hi (fun e => hf (by cases e; exact hb)), fun i c t f e => (g.block i (heap_lt e) (fun e' => by
    cases e'
    obtain ⟨es, cl, hm⟩ := hm
    rw [hm] at e; cases e)).trans e⟩
theorem Trn.drew (F : Nat → Prop) (w : World) : Trn F w w.drew := ⟨rfl, rfl, rfl, Nat.le_refl _, fun _ _ _ => rfl, fun _ _ _ _ h => h⟩
theorem Trn.cell {F : Nat → Prop} {w w' : World} (h : Trn F w w') {a : Addr} {v : Value} (hc : w.cell? a = some v) : w'.cell? a = some v := by
  unfold World.cell? at hc
  split at hc
  · rename_i c t f e
    unfold World.cell?
    rw [h.cells _ _ _ _ e]; exact hc
  · cases hc
theorem Trn.below {F : Nat → Prop} {B : Nat} {w0 w w' : World} (hb : Below B w0 w) (hB : B ≤ w.heap.size) (h : Trn F w w') (hF : ∀ i, i < B → ¬ F i) : Below B w0 w' :=
  ⟨h.os.trans hb.os, h.tape.trans hb.tape, h.output.trans hb.output, Nat.le_trans hb.size h.size, fun i hi => (h.block i (by omega) (hF i hi)).trans (hb.block i hi)⟩
theorem TxAt.trn {F : Nat → Prop} {w w' : World} (t : Trn F w w') {a : Option Addr} {n c : Nat} {l : List Tx} (h : TxAt w a n c l) : TxAt w' a n c l := by
  obtain ⟨h1, h2, h3, h5⟩ := h
  refine ⟨h1, h2, h3, ?_⟩
  rcases h5 with h0 | ⟨b, off, rfl, hlt, hc⟩
  · exact .inl h0
  · exact .inr ⟨b, off, rfl, Nat.lt_of_lt_of_le hlt t.size, fun i hi => t.cell (hc i hi)⟩

end Go.Proofs.Ytlogkhifgkkjeaa
