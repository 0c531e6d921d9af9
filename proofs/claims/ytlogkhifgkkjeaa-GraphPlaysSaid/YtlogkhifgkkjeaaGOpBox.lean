/-
  A call of the script in a box of its own.
-/
import Derived.Test.YtlogkhifgkkjeaaGUse
import Derived.Test.YtlogkhifgkkjeaaGArgs
namespace Go.Proofs.Ytlogkhifgkkjeaa
open Go.RowKit
set_option linter.unusedVariables false
set_option linter.unusedSimpArgs false

def OpBox (w : World) (B : Nat) (k : Int) (r : Ru) : Prop := w.heap[B]? = some (.cells #[.int .i64 k, .string (bs r.src), .string (bs r.dst), .int .i64 r.kind, .int .i64 r.size, .int .i64 r.align] 33 (0, 0))
theorem OpBox.new (w : World) (k : Int) (r : Ru) : OpBox (w.alloc (.cells #[.int .i64 k, .string (bs r.src), .string (bs r.dst), .int .i64 r.kind, .int .i64 r.size, .int .i64 r.align] 33)) w.heap.size k r := heap_new w _
theorem OpBox.lt {w : World} {B : Nat} {k : Int} {r : Ru} (h : OpBox w B k r) : B < w.heap.size := heap_lt h
theorem OpBox.keep {w w' : World} {B : Nat} {k : Int} {r : Ru} (h : OpBox w B k r) (b : Below w.heap.size w w') : OpBox w' B k r := (b.block B (heap_lt h)).trans h
theorem OpBox.tu {F : Nat → Prop} {w w' : World} {B : Nat} {k : Int} {r : Ru} (h : OpBox w B k r) (t : Tu F w w') (hb : ¬ F B) : OpBox w' B k r := (t.block B (heap_lt h) hb).trans h
theorem OpBox.c0 {w : World} {B : Nat} {k : Int} {r : Ru} (h : OpBox w B k r) : w.cell? ⟨B, 0, none⟩ = some (.int .i64 k) := by rw [cell_of h]; rfl
theorem OpBox.c1 {w : World} {B : Nat} {k : Int} {r : Ru} (h : OpBox w B k r) : w.cell? ⟨B, 1, none⟩ = some (.string (bs r.src)) := by rw [cell_of h]; rfl
theorem OpBox.c2 {w : World} {B : Nat} {k : Int} {r : Ru} (h : OpBox w B k r) : w.cell? ⟨B, 2, none⟩ = some (.string (bs r.dst)) := by rw [cell_of h]; rfl
theorem OpBox.c3 {w : World} {B : Nat} {k : Int} {r : Ru} (h : OpBox w B k r) : w.cell? ⟨B, 3, none⟩ = some (.int .i64 r.kind) := by rw [cell_of h]; rfl
theorem OpBox.c4 {w : World} {B : Nat} {k : Int} {r : Ru} (h : OpBox w B k r) : w.cell? ⟨B, 4, none⟩ = some (.int .i64 r.size) := by rw [cell_of h]; rfl
theorem OpBox.c5 {w : World} {B : Nat} {k : Int} {r : Ru} (h : OpBox w B k r) : w.cell? ⟨B, 5, none⟩ = some (.int .i64 r.align) := by rw [cell_of h]; rfl
/-! What a graph's rules are. -/
theorem flat_into {L : List Ru} (g : GoodU L) {r : Ru} (hr : r ∈ L) : intoL L r.dst = some r := g.into.2 ⟨hr, rfl⟩
theorem flat_src {L : List Ru} (g : GoodU L) {r : Ru} (hr : r ∈ L) : intoL L r.src = none := into_none.2 fun q hq => g.flat q hq r hr
theorem flat_of {L : List Ru} (g : GoodU L) {r : Ru} (hr : r ∈ L) : ofL L r.dst = [] := ofL_nil.2 fun q hq e => g.flat r hr q hq e.symm

end Go.Proofs.Ytlogkhifgkkjeaa
