/-
  The document's index in memory: a row of entries; a world in which that index alone has turned.
-/
import Derived.Test.YtpkbkemenfdadaaIRow
namespace Go.Proofs.Ytpkbkemenfdadaa
open Go.RowKit
set_option linter.unusedVariables false
set_option linter.unusedSimpArgs false

def RxCell (w : World) (r : Nat) (s : Value) : Prop := w.heap[r]? = some (.cells #[s] 30 (0, 0))
theorem RxCell.c0 {w : World} {r : Nat} {s : Value} (h : RxCell w r s) : w.cell? ⟨r, 0, none⟩ = some s := by rw [cell_of h]; rfl
/-- The document's index: its entries. -/
structure RefAt (w : World) (r : Nat) (a : Option Addr) (n c : Nat) (T : List EnT) : Prop where
  cell : RxCell w r (.slice a n c)
  row : EnAt w a n c T
  ok : ∀ e ∈ T, LbAt w e.a e.n e.c e.l
theorem RefAt.trn {F : Nat → Prop} {w w' : World} (t : Trn F w w') {r : Nat} {a : Option Addr} {n c : Nat} {T : List EnT} (h : RefAt w r a n c T) : RefAt w' r a n c T :=
  ⟨t.cells _ _ _ _ h.cell, h.row.trn t, fun e he => (h.ok e he).trn t⟩
theorem RefAt.keep {w w' : World} {r : Nat} {a : Option Addr} {n c : Nat} {T : List EnT} (h : RefAt w r a n c T) (b : Below w.heap.size w w') : RefAt w' r a n c T := h.trn (F := fun _ => False) (.of b)
theorem RefAt.lt {w : World} {r : Nat} {a : Option Addr} {n c : Nat} {T : List EnT} (h : RefAt w r a n c T) : r < w.heap.size := heap_lt h.cell

/-- Of what was there, block r alone has turned. -/
structure Far (r : Nat) (w w' : World) : Prop where
  os : w'.os = w.os
  tape : w'.tape = w.tape
  output : w'.output = w.output
  size : w.heap.size ≤ w'.heap.size
  block : ∀ i, i < w.heap.size → i ≠ r → w'.heap[i]? = w.heap[i]?
theorem Far.of {r : Nat} {w w' : World} (h : Below w.heap.size w w') : Far r w w' := ⟨h.os, h.tape, h.output, h.size, fun i hi _ => h.block i hi⟩
theorem Far.grown {r : Nat} {w w' : World} (g : w.grownBy w' (some r)) : Far r w w' := ⟨g.os, g.tape, g.output, g.size, fun i hi e => g.block i hi (by simpa using e)⟩
theorem Far.trans {r : Nat} {a b c : World} (h : Far r a b) (k : Far r b c) : Far r a c :=
  ⟨k.os.trans h.os, k.tape.trans h.tape, k.output.trans h.output, Nat.le_trans h.size k.size, fun i hi e => (k.block i (Nat.lt_of_lt_of_le hi h.size) e).trans (h.block i hi e)⟩
theorem Far.below {r B : Nat} {w0 w w' : World} (hb : Below B w0 w) (hs : B ≤ w.heap.size) (h : Far r w w') (hr : B ≤ r) : Below B w0 w' :=
  ⟨h.os.trans hb.os, h.tape.trans hb.tape, h.output.trans hb.output, Nat.le_trans hb.size h.size, fun i hi => (h.block i (by omega) (by omega)).trans (hb.block i hi)⟩
theorem Far.str {r : Nat} {w w' : World} {a : Option Addr} {n c : Nat} (h : Far r w w') (hr : RxCell w r (.slice a n c)) {p : Addr} {s : ByteArray} (hc : w.cell? p = some (.string s)) : w'.cell? p = some (.string s) := by
  by_cases e : p.block = r
  · obtain ⟨b, off, spot⟩ := p
    have hs : spot = none := World.cell?_spot hc
    subst hs
    have e : b = r := e
    subst e
    rw [cell_of hr] at hc
    cases off with
    | zero => simp at hc
    | succ k => simp at hc
  · rw [World.cell?_of_block (w := w) (h.block p.block (World.block_lt_of_cell? w p hc) e)]; exact hc
theorem LbAt.far {r : Nat} {w w' : World} {a1 : Option Addr} {n1 c1 : Nat} (t : Far r w w') (hr : RxCell w r (.slice a1 n1 c1)) {a : Option Addr} {n c : Nat} {l : List Lb} (h : LbAt w a n c l) : LbAt w' a n c l := by
  obtain ⟨h1, h2, h3, h5⟩ := h
  refine ⟨h1, h2, h3, ?_⟩
  rcases h5 with h0 | ⟨b, off, rfl, hlt, hc⟩
  · exact .inl h0
  · exact .inr ⟨b, off, rfl, Nat.lt_of_lt_of_le hlt t.size, fun i hi => ⟨t.str hr (hc i hi).1, t.str hr (hc i hi).2⟩⟩
theorem IxAt.far {r : Nat} {w w' : World} {a1 : Option Addr} {n1 c1 : Nat} (t : Far r w w') (hr : RxCell w r (.slice a1 n1 c1)) {x bl bn : Nat} {ρ : Rho} {E : List Ent} (h : IxAt w x bl bn ρ E) : IxAt w' x bl bn ρ E := by
  have hm : ∀ i es c, w.heap[i]? = some (.map es c) → i ≠ r := fun i es c e e' => by rw [e'] at e; unfold RxCell at hr; rw [hr] at e; cases e
  have hx : x ≠ r := fun e => by
    have h1 := h.cell
    have h2 := hr
    unfold IxCell at h1
    unfold RxCell at h2
    rw [e, h2] at h1
    simp at h1
  have hbl : bl ≠ r := by
    obtain ⟨T, h1, _⟩ := h.labs
    obtain ⟨es, c, e⟩ := h1.isMap
    exact hm _ _ _ e
  have hF : ∀ i, FA ρ i → i ≠ r := fun i f => by
    cases e : ρ i with
    | none => exact absurd e f
    | some q =>
      obtain ⟨es, c, k⟩ := h.ok i q e
      exact hm _ _ _ k
  refine ⟨?_, h.rl, h.rn, ?_, ?_, fun i q e => ?_, h.good⟩
  · have h1 := h.cell
    unfold IxCell at *
    rw [t.block x (heap_lt h1) hx]; exact h1
  · obtain ⟨T, h1, h2, h3⟩ := h.labs
    refine ⟨T, h1.same (t.block bl h1.lt hbl), h2, fun p hp => ?_⟩
    obtain ⟨a, c, e, k⟩ := h3 p hp
    exact ⟨a, c, e, k.far t hr⟩
  · exact h.nams.same (t.block bn h.nams.lt (hF bn (by unfold FA; rw [h.rn]; simp))) (.refl _ _) (fun c hc f => t.block c hc (hF c f.a)) (fun _ _ _ => Iff.rfl)
  · obtain ⟨es, c, hb⟩ := h.ok i q e
    exact ⟨es, c, (t.block i (heap_lt hb) (hm _ _ _ hb)).trans hb⟩

/-! The entries' list. -/
theorem ents_len (T : List EnT) : (ents T).length = T.length := List.length_map ..
theorem ents_at {T : List EnT} {i : Nat} (h : i < T.length) : (ents T)[i]'(by rw [ents_len]; exact h) = (T[i].key, T[i].l) := by unfold ents; rw [List.getElem_map]; rfl
theorem en_get {T : List EnT} {i : Nat} (h : i < T.length) : eK T i = T[i].key ∧ eV T i = .slice T[i].a T[i].n T[i].c := by
  unfold eK eV
  rw [List.getD_eq_getElem?_getD, List.getElem?_eq_getElem h]
  exact ⟨rfl, rfl⟩
/-- An entry of the document's index, as it lies there. -/
theorem RefAt.at_ {w : World} {r : Nat} {a : Option Addr} {n c : Nat} {T : List EnT} (h : RefAt w r a n c T) (i : Nat) (hi : i < n) :
    ∃ b off, ∃ (hT : i < T.length), a = some ⟨b, off, none⟩ ∧ b < w.heap.size ∧ w.cell? ⟨b, off + i * 2, none⟩ = some (.string (bs T[i].key)) ∧ w.cell? ⟨b, off + i * 2 + 1, none⟩ = some (.slice T[i].a T[i].n T[i].c) ∧ LbAt w T[i].a T[i].n T[i].c T[i].l := by
  have hT : i < T.length := by rw [h.row.1]; exact hi
  obtain ⟨b, off, e, hb, h0, h1⟩ := h.row.at_ i hi
  rw [(en_get hT).1] at h0
  rw [(en_get hT).2] at h1
  exact ⟨b, off, hT, e, hb, h0, h1, h.ok _ (List.getElem_mem hT)⟩

end Go.Proofs.Ytpkbkemenfdadaa
