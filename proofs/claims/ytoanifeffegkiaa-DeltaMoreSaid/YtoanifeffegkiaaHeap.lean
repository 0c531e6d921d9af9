/-
  Small facts on memory: what a store, a new block and a draw leave of the blocks; how a Writer and a Reader of package bits lie in memory.
-/
import Derived.Test.YtoanifeffegkiaaMath
import Derived.Test.YtoanifeffegkiaaPure
import Derived.Lib.Hide
namespace Go.Proofs.Ytoanifeffegkiaa
open Go.RowKit

theorem gb_refl (w : World) (row : Option Nat) : w.grownBy w row := ⟨rfl, rfl, rfl, Nat.le_refl _, fun _ _ _ => rfl⟩
theorem gb_trans {a b c : World} {row : Option Nat} (h : a.grownBy b row) (k : b.grownBy c row) : a.grownBy c row :=
  ⟨k.os.trans h.os, k.tape.trans h.tape, k.output.trans h.output, Nat.le_trans h.size k.size, fun i hi hr => (k.block i (Nat.lt_of_lt_of_le hi h.size) hr).trans (h.block i hi hr)⟩
theorem gb_set {a w : World} {b : Nat} (h : a.grownBy w (some b)) (o : Nat) (v : Value) : a.grownBy (w.setCell ⟨b, o, none⟩ v) (some b) :=
  gb_trans h ⟨rfl, rfl, rfl, by simp [World.setCell], fun k _ hr => Below.heap_setCell _ _ _ _ (fun e => hr (by rw [e]))⟩
theorem gb_alloc {a w : World} {row : Option Nat} (h : a.grownBy w row) (o : Obj) : a.grownBy (w.alloc o) row := gb_trans h (World.grownBy_alloc w o row)
theorem gb_drew {a w : World} {row : Option Nat} (h : a.grownBy w row) : a.grownBy w.drew row := ⟨h.os, h.tape, h.output, h.size, h.block⟩
theorem gb_none {a w : World} (h : a.grownBy w none) (row : Option Nat) : a.grownBy w row := ⟨h.os, h.tape, h.output, h.size, fun k hk _ => h.block k hk (by simp)⟩
theorem gb_below {a w : World} {row : Option Nat} (h : Below a.heap.size a w) : a.grownBy w row := ⟨h.os, h.tape, h.output, h.size, fun k hk _ => h.block k hk⟩
theorem gb_below_none {a w : World} (h : a.grownBy w none) : Below a.heap.size a w := ⟨h.os, h.tape, h.output, h.size, fun k hk => h.block k hk (by simp)⟩

theorem heap_set {w : World} {b o : Nat} {v : Value} {c : Array Value} {t : TypeId} {f : Nat × Nat} (h : w.heap[b]? = some (.cells c t f)) :
    (w.setCell ⟨b, o, none⟩ v).heap[b]? = some (.cells (c.setIfInBounds o v) t f) := by
  simp [World.setCell, Array.getElem?_modify, h]
theorem heap_set_ne {w : World} {b k o : Nat} {v : Value} (h : k ≠ b) : (w.setCell ⟨b, o, none⟩ v).heap[k]? = w.heap[k]? := Below.heap_setCell _ _ _ _ h
theorem heap_lt {w : World} {b : Nat} {x : Obj} (h : w.heap[b]? = some x) : b < w.heap.size := (Array.getElem?_eq_some_iff.1 h).1
theorem heap_old {w : World} {o x : Obj} {b : Nat} (h : w.heap[b]? = some x) : (w.alloc o).heap[b]? = some x := by rw [Below.heap_alloc _ _ _ (heap_lt h)]; exact h
theorem heap_new (w : World) (o : Obj) : (w.alloc o).heap[w.heap.size]? = some o := by show (w.heap.push o)[w.heap.size]? = _; simp
theorem heap_drew (w : World) (b : Nat) : w.drew.heap[b]? = w.heap[b]? := rfl
theorem cell_of {w : World} {b o : Nat} {c : Array Value} {t : TypeId} {f : Nat × Nat} (h : w.heap[b]? = some (.cells c t f)) : w.cell? ⟨b, o, none⟩ = c[o]? := by simp [World.cell?, h]
theorem frozen_of {w : World} {b o : Nat} {c : Array Value} {t : TypeId} (h : w.heap[b]? = some (.cells c t (0, 0))) : w.frozen? ⟨b, o, none⟩ = false := by simp [World.frozen?, h]

/-- 64 bits a word, the last one first. -/
def flat : List (List Bool) → List Bool
  | [] => []
  | x :: r => flat r ++ x

def Chain (w : World) : Option Addr → List (List Bool) → Prop
  | p, [] => p = none
  | p, x :: r => ∃ k q, p = some ⟨k, 0, none⟩ ∧ x.length = 64 ∧ w.heap[k]? = some (.cells #[.int .u64 (num x : Nat), .pointer q] 76 (0, 0)) ∧ Chain w q r

/-- A Writer lies in block b, and has these bits. -/
def WrAt (w : World) (b : Nat) (xs : List Bool) : Prop :=
  ∃ p bl op, xs = flat bl ++ op ∧ op.length < 64 ∧ w.heap[b]? = some (.cells #[.pointer p, .int .u64 (num op : Nat), .int .i64 (xs.length : Nat)] 28 (0, 0)) ∧ Chain w p bl

theorem flat_len {w : World} {p : Option Addr} {bl : List (List Bool)} (h : Chain w p bl) : (flat bl).length = 64 * bl.length := by
  induction bl generalizing p with
  | nil => rfl
  | cons x r ih =>
    obtain ⟨k, q, _, hx, _, hr⟩ := h
    have := ih hr
    simp [flat, hx]; omega

theorem Chain.keep {w w' : World} {p : Option Addr} {bl : List (List Bool)} (h : Chain w p bl)
    (hk : ∀ (k : Nat) (c : Array Value), w.heap[k]? = some (.cells c 76 (0, 0)) → w'.heap[k]? = w.heap[k]?) : Chain w' p bl := by
  induction bl generalizing p with
  | nil => exact h
  | cons x r ih =>
    obtain ⟨k, q, hp, hx, hc, hr⟩ := h
    exact ⟨k, q, hp, hx, by rw [hk k _ hc]; exact hc, ih hr⟩

/-- Block b is no word of a Writer: it is not there, or of another type. -/
def Apart (w : World) (b : Nat) : Prop := ∀ c : Array Value, w.heap[b]? ≠ some (.cells c 76 (0, 0))
theorem apart_of {w : World} {b : Nat} {c : Array Value} {t : TypeId} {f : Nat × Nat} (h : w.heap[b]? = some (.cells c t f)) (ht : t ≠ 76) : Apart w b := by
  intro c' h'
  rw [h] at h'
  simp at h'
  exact ht h'.2.1
theorem WrAt.lt {w : World} {b : Nat} {xs : List Bool} (h : WrAt w b xs) : b < w.heap.size := by
  obtain ⟨p, bl, op, _, _, hc, _⟩ := h; exact heap_lt hc
theorem WrAt.apart {w : World} {b : Nat} {xs : List Bool} (h : WrAt w b xs) : Apart w b := by
  obtain ⟨p, bl, op, _, _, hc, _⟩ := h; exact apart_of hc (by decide)

/-- What happens to another block leaves a Writer as it was. -/
theorem WrAt.keep {w w' : World} {b b' : Nat} {xs : List Bool} (h : WrAt w b xs) (hg : w.grownBy w' (some b')) (hne : b ≠ b') (ha : Apart w b') : WrAt w' b xs := by
  obtain ⟨p, bl, op, hx, ho, hc, hch⟩ := h
  refine ⟨p, bl, op, hx, ho, ?_, ?_⟩
  · rw [hg.block b (heap_lt hc) (by simp; exact hne)]; exact hc
  · refine hch.keep fun k c hk => hg.block k (heap_lt hk) ?_
    intro e
    cases e
    exact ha c hk
theorem WrAt.keep_none {w w' : World} {b : Nat} {xs : List Bool} (h : WrAt w b xs) (hg : w.grownBy w' none) : WrAt w' b xs := by
  obtain ⟨p, bl, op, hx, ho, hc, hch⟩ := h
  refine ⟨p, bl, op, hx, ho, ?_, ?_⟩
  · rw [hg.block b (heap_lt hc) (by simp)]; exact hc
  · exact hch.keep fun k c hk => hg.block k (heap_lt hk) (by simp)

/-- A Reader that Read gave lies in block b: it has these bits, and stands behind the first 'at'. -/
def RdAt (w : World) (b : Nat) (bs : List Bool) (at' : Nat) : Prop :=
  ∃ t : ByteArray, w.heap[b]? = some (.cells #[.bool true, .string t, .int .i64 (bs.length : Nat), .int .i64 (at' : Nat)] 81 (0, 0)) ∧ at' ≤ bs.length ∧ bs.length ≤ 8 * t.size ∧
    t.size ≤ 140737488355328 ∧ bs = bitsL t.data.toList bs.length
theorem RdAt.lt {w : World} {b at' : Nat} {bs : List Bool} (h : RdAt w b bs at') : b < w.heap.size := by
  obtain ⟨t, hc, _⟩ := h; exact heap_lt hc
theorem RdAt.apart {w : World} {b at' : Nat} {bs : List Bool} (h : RdAt w b bs at') : Apart w b := by
  obtain ⟨t, hc, _⟩ := h; exact apart_of hc (by decide)
theorem RdAt.keep {w w' : World} {b at' : Nat} {bs : List Bool} {row : Option Nat} (h : RdAt w b bs at') (hg : w.grownBy w' row) (hne : some b ≠ row) : RdAt w' b bs at' := by
  obtain ⟨t, hc, r⟩ := h
  exact ⟨t, by rw [hg.block b (heap_lt hc) hne]; exact hc, r⟩
theorem ne_wr_rd {w : World} {b b' at' : Nat} {xs bs : List Bool} (h : WrAt w b xs) (h' : RdAt w b' bs at') : b ≠ b' := by
  obtain ⟨p, bl, op, _, _, hc, _⟩ := h
  obtain ⟨t, hc', _⟩ := h'
  intro e; subst e
  rw [hc] at hc'
  simp at hc'

end Go.Proofs.Ytoanifeffegkiaa
