/-
  A graph of the call's own; rows and boxes off a graph.
-/
import Derived.Test.YtlogkhifgkkjeaaGCopy
import Derived.Test.YtlogkhifgkkjeaaGAdd
import Derived.Test.YtlogkhifgkkjeaaGAll
import Derived.Test.YtlogkhifgkkjeaaGGone
namespace Go.Proofs.Ytlogkhifgkkjeaa
open Go.RowKit
set_option linter.unusedVariables false
set_option linter.unusedSimpArgs false

structure GOwn (base : Nat) (w0 w : World) (x bi bf : Nat) (F : Nat → Prop) (L : List Ru) : Prop where
  gr : GrAt w x bi bf F L
  xb : base ≤ x
  fb : ∀ i, F i → base ≤ i
  bel : Below base w0 w
  sz : base ≤ w.heap.size
theorem GOwn.keep {base : Nat} {w0 w w' : World} {x bi bf : Nat} {F : Nat → Prop} {L : List Ru} (h : GOwn base w0 w x bi bf F L) (b : Below w.heap.size w w') : GOwn base w0 w' x bi bf F L :=
  ⟨h.gr.keep b, h.xb, h.fb, h.bel.trans (b.mono h.sz), Nat.le_trans h.sz b.size⟩
theorem GOwn.turn {base : Nat} {w0 w w' : World} {x bi bf : Nat} {F F' : Nat → Prop} {L L' : List Ru} (h : GOwn base w0 w x bi bf F L) (t : GrTurn w w' x bi bf F F' L') : GOwn base w0 w' x bi bf F' L' :=
  ⟨t.gr, h.xb, fun i f => (t.ext i f).elim (h.fb i) (fun k => Nat.le_trans h.sz k), t.tu.below h.bel h.sz (fun i hi f => by have := h.fb i f; omega), Nat.le_trans h.sz t.tu.size⟩
/-- Another one's blocks turn. -/
theorem GOwn.tu {base : Nat} {w0 w w' : World} {x bi bf : Nat} {F G : Nat → Prop} {L : List Ru} (h : GOwn base w0 w x bi bf F L) (t : Tu G w w') (hx : ¬ G x) (hG : ∀ i, F i → ¬ G i) (hb : ∀ i, G i → base ≤ i) : GOwn base w0 w' x bi bf F L :=
  ⟨h.gr.tu t hx hG, h.xb, h.fb, t.below h.bel h.sz (fun i hi f => by have := hb i f; omega), Nat.le_trans h.sz t.size⟩
theorem GOwn.new {base : Nat} {w0 w w' : World} {x bi bf : Nat} {F : Nat → Prop} {L : List Ru} (b : Below base w0 w) (hs : base ≤ w.heap.size) (g : GrAt w' x bi bf F L) (b' : Below w.heap.size w w') (hx : w.heap.size ≤ x) (hF : ∀ i, F i → w.heap.size ≤ i) : GOwn base w0 w' x bi bf F L :=
  ⟨g, Nat.le_trans hs hx, fun i f => Nat.le_trans hs (hF i f), b.trans (b'.mono hs), Nat.le_trans hs b'.size⟩

/-- A row off a graph. -/
structure RowO (τ : TypeId) (F : Nat → Prop) (w : World) (v : Value) (l : List Ru) : Prop where
  row : URow τ w 0 v l
  off : ∀ g, v.ownBlock = some g → ¬ F g
theorem RowO.new {τ : TypeId} {w w' : World} {x bi bf : Nat} {F : Nat → Prop} {L l : List Ru} {v : Value} (h : GrAt w x bi bf F L) (r : URow τ w' w.heap.size v l) : RowO τ F w' v l :=
  ⟨r.mono (Nat.zero_le _), fun g hg f => by have h1 := r.base hg; have h2 := h.lt g f; omega⟩
theorem RowO.keep {τ : TypeId} {F : Nat → Prop} {w w' : World} {v : Value} {l : List Ru} (h : RowO τ F w v l) (b : Below w.heap.size w w') : RowO τ F w' v l := ⟨h.row.keep b, h.off⟩
theorem RowO.turn {τ : TypeId} {w w' : World} {x bi bf : Nat} {F F' : Nat → Prop} {L' l : List Ru} {v : Value} (h : RowO τ F w v l) (t : GrTurn w w' x bi bf F F' L') : RowO τ F' w' v l :=
  ⟨h.row.tu t.tu (fun g hg => h.off g hg), fun g hg => t.out (h.row.lt hg) (h.off g hg)⟩
/-- A box off a graph. -/
structure BoxO (τ : TypeId) (F : Nat → Prop) (w : World) (B : Nat) (r : Ru) : Prop where
  box : BoxU τ w B r
  off : ¬ F B
theorem BoxO.keep {τ : TypeId} {F : Nat → Prop} {w w' : World} {B : Nat} {r : Ru} (h : BoxO τ F w B r) (b : Below w.heap.size w w') : BoxO τ F w' B r := ⟨h.box.keep b, h.off⟩
theorem BoxO.turn {τ : TypeId} {w w' : World} {x bi bf : Nat} {F F' : Nat → Prop} {L' : List Ru} {B : Nat} {r : Ru} (h : BoxO τ F w B r) (t : GrTurn w w' x bi bf F F' L') : BoxO τ F' w' B r :=
  ⟨h.box.tu t.tu h.off, t.out h.box.lt h.off⟩
/-- A box that is made. -/
theorem BoxO.new {w : World} {x bi bf : Nat} {F : Nat → Prop} {L : List Ru} (τ : TypeId) (h : GrAt w x bi bf F L) (r : Ru) :
    BoxO τ F (w.alloc (.cells #[.string (bs r.src), .string (bs r.dst), .int .i64 r.kind, .int .i64 r.size, .int .i64 r.align] τ)) w.heap.size r :=
  ⟨BoxU.new τ w r, fun f => by have := h.lt _ f; omega⟩

/-! The calls. -/
theorem oadd {base : Nat} {w0 w : World} {x bi bf : Nat} {F : Nat → Prop} {L : List Ru} (r : Ru) (h : GOwn base w0 w x bi bf F L) (hL : L.length ≤ 900) :
    Calls Try.prog 12 #[.pointer (some ⟨x, 0, none⟩), ruV r] w fun e w' => e = .returned (.int .i64 (addE L r)) ∧ ∃ F', GOwn base w0 w' x bi bf F' (addU L r) ∧ GrTurn w w' x bi bf F F' (addU L r) :=
  (gadd_ok w x bi bf F L r h.gr hL).mono fun _ _ ⟨e, F', t⟩ => ⟨e, F', h.turn t, t⟩
theorem odrop {base : Nat} {w0 w : World} {x bi bf : Nat} {F : Nat → Prop} {L : List Ru} (s d : Tx) (h : GOwn base w0 w x bi bf F L) (hL : L.length ≤ 1000) :
    Calls Try.prog 15 #[.pointer (some ⟨x, 0, none⟩), .string (bs s), .string (bs d)] w fun e w' => e = .returned (.tuple #[ruV (dropR L s d), .int .i64 (dropE L s d)]) ∧ ∃ F', GOwn base w0 w' x bi bf F' (dropU L s d) ∧ GrTurn w w' x bi bf F F' (dropU L s d) :=
  (gdrop_ok w x bi bf F L s d h.gr hL).mono fun _ _ ⟨e, F', t⟩ => ⟨e, F', h.turn t, t⟩
theorem ogone {base : Nat} {w0 w : World} {x bi bf : Nat} {F : Nat → Prop} {L : List Ru} (k : Tx) (h : GOwn base w0 w x bi bf F L) (hL : L.length ≤ 1000) :
    Calls Try.prog 17 #[.pointer (some ⟨x, 0, none⟩), .string (bs k)] w fun e w' => e = .returned (.int .i64 (goneN L k : Int)) ∧ ∃ F', GOwn base w0 w' x bi bf F' (goneL L k) ∧ GrTurn w w' x bi bf F F' (goneL L k) :=
  (gone_ok w x bi bf F L k h.gr hL).mono fun _ _ ⟨e, F', t⟩ => ⟨e, F', h.turn t, t⟩
theorem ointo {base : Nat} {w0 w : World} {x bi bf : Nat} {F : Nat → Prop} {L : List Ru} (d : Tx) (h : GOwn base w0 w x bi bf F L) :
    Calls Try.prog 20 #[.pointer (some ⟨x, 0, none⟩), .string (bs d)] w fun e w' => e = .returned (.tuple #[ruV ((intoL L d).getD zeroU), .bool (intoL L d).isSome]) ∧ Below w.heap.size w w' :=
  ginto_ok w x bi bf (intoL L) d h.gr.cell h.gr.into
theorem oof {base : Nat} {w0 w : World} {x bi bf : Nat} {F : Nat → Prop} {L : List Ru} (s : Tx) (h : GOwn base w0 w x bi bf F L) (hL : L.length ≤ 1000) :
    Calls Try.prog 25 #[.pointer (some ⟨x, 0, none⟩), .string (bs s)] w fun e w' => ∃ v, e = .returned v ∧ URow 31 w' w.heap.size v (ofL L s) ∧ Below w.heap.size w w' :=
  gof_ok w x bi bf F (ofL L) s h.gr.cell h.gr.from_ (Nat.le_trans (ofL_le _ _) hL)
theorem oall {base : Nat} {w0 w : World} {x bi bf : Nat} {F : Nat → Prop} {L : List Ru} (h : GOwn base w0 w x bi bf F L) (hL : L.length ≤ 1000) :
    Calls Try.prog 24 #[.pointer (some ⟨x, 0, none⟩)] w fun e w' => ∃ v, e = .returned v ∧ URow 31 w' w.heap.size v L ∧ Below w.heap.size w w' :=
  gall_ok w x bi bf F L h.gr hL

end Go.Proofs.Ytlogkhifgkkjeaa
