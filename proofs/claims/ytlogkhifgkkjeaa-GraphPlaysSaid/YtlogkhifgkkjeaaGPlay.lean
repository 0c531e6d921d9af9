/-
  The law's graph and the document's, side by side.
-/
import Derived.Test.YtlogkhifgkkjeaaGOpBox
namespace Go.Proofs.Ytlogkhifgkkjeaa
open Go.RowKit
set_option linter.unusedVariables false
set_option linter.unusedSimpArgs false

structure Duo (base : Nat) (w0 w : World) (x bi bf : Nat) (F : Nat → Prop) (L : List Ru) (r : Nat) (a : Option Addr) (n c : Nat) (M : List Ru) : Prop where
  g : GOwn base w0 w x bi bf F L
  d : RgAt w r a n c M
  rb : base ≤ r
  fr : ¬ F r
  xr : x ≠ r
  fa : ∀ ad, a = some ad → ad.block < w.heap.size ∧ ¬ F ad.block
/-- The call's box. -/
structure Pb (F : Nat → Prop) (w : World) (r B : Nat) (k : Int) (q : Ru) : Prop where
  p : OpBox w B k q
  fp : ¬ F B
  pr : B ≠ r
theorem RgAt.tu {G : Nat → Prop} {w w' : World} {r : Nat} {a : Option Addr} {n c : Nat} {L : List Ru} (h : RgAt w r a n c L) (t : Tu G w w') (hr : ¬ G r) (hG : ∀ ad, a = some ad → ¬ G ad.block) : RgAt w' r a n c L :=
  ⟨(t.block r h.lt hr).trans h.cell, h.row.tu t hG, h.ne⟩
theorem Pb.keep {F : Nat → Prop} {w w' : World} {r B : Nat} {k : Int} {q : Ru} (h : Pb F w r B k q) (b : Below w.heap.size w w') : Pb F w' r B k q := ⟨h.p.keep b, h.fp, h.pr⟩
theorem Pb.turnG {F F' : Nat → Prop} {w w' : World} {x bi bf r B : Nat} {k : Int} {q : Ru} {L' : List Ru} (h : Pb F w r B k q) (t : GrTurn w w' x bi bf F F' L') : Pb F' w' r B k q := ⟨h.p.tu t.tu h.fp, t.out h.p.lt h.fp, h.pr⟩
theorem Pb.turnR {F : Nat → Prop} {w w' : World} {r B : Nat} {k : Int} {q : Ru} (h : Pb F w r B k q) (t : Tu (fun i => i = r) w w') : Pb F w' r B k q := ⟨h.p.tu t h.pr, h.fp, h.pr⟩
section
variable {base : Nat} {w0 w w' : World} {x bi bf : Nat} {F F' : Nat → Prop} {L L' M M' : List Ru} {r : Nat} {a : Option Addr} {n c : Nat}
theorem Duo.keep (h : Duo base w0 w x bi bf F L r a n c M) (b : Below w.heap.size w w') : Duo base w0 w' x bi bf F L r a n c M :=
  ⟨h.g.keep b, h.d.keep b, h.rb, h.fr, h.xr, fun ad e => ⟨Nat.lt_of_lt_of_le (h.fa ad e).1 b.size, (h.fa ad e).2⟩⟩
theorem Duo.turnG (h : Duo base w0 w x bi bf F L r a n c M) (t : GrTurn w w' x bi bf F F' L') : Duo base w0 w' x bi bf F' L' r a n c M :=
  ⟨h.g.turn t, h.d.tu t.tu h.fr (fun ad e => (h.fa ad e).2), h.rb, t.out h.d.lt h.fr, h.xr, fun ad e => ⟨Nat.lt_of_lt_of_le (h.fa ad e).1 t.tu.size, t.out (h.fa ad e).1 (h.fa ad e).2⟩⟩
theorem Duo.turnR (h : Duo base w0 w x bi bf F L r a n c M) (t : RgTurn w w' r a M') : ∃ a' n' c', Duo base w0 w' x bi bf F L r a' n' c' M' ∧ Tu (fun i => i = r) w w' := by
  obtain ⟨a', n', c', h1, h2, h3⟩ := t
  refine ⟨a', n', c', ⟨h.g.tu h2 h.xr (fun i f e => h.fr (e ▸ f)) (fun i e => e ▸ h.rb), h1, h.rb, h.fr, h.xr, fun ad e => ?_⟩, h2⟩
  rcases h3 ad e with k | ⟨k1, k2⟩
  · exact ⟨Nat.lt_of_lt_of_le (h.fa ad k).1 h2.size, (h.fa ad k).2⟩
  · exact ⟨k2, fun f => by have := h.g.gr.lt _ f; omega⟩
theorem Duo.len (h : Duo base w0 w x bi bf F L r a n c M) : M.length = n := h.d.row.1
variable {B : Nat} {k : Int} {q0 : Ru}
theorem tadd (q : Ru) (h : Duo base w0 w x bi bf F L r a n c M) (p : Pb F w r B k q0) (hL : L.length ≤ 900) :
    Calls Try.prog 12 #[.pointer (some ⟨x, 0, none⟩), ruV q] w fun e w' => e = .returned (.int .i64 (addE L q)) ∧ ∃ F', Duo base w0 w' x bi bf F' (addU L q) r a n c M ∧ Pb F' w' r B k q0 :=
  (gadd_ok w x bi bf F L q h.g.gr hL).mono fun _ _ ⟨e, F', t⟩ => ⟨e, F', h.turnG t, p.turnG t⟩
theorem tdrop (s d : Tx) (h : Duo base w0 w x bi bf F L r a n c M) (p : Pb F w r B k q0) (hL : L.length ≤ 1000) :
    Calls Try.prog 15 #[.pointer (some ⟨x, 0, none⟩), .string (bs s), .string (bs d)] w fun e w' => e = .returned (.tuple #[ruV (dropR L s d), .int .i64 (dropE L s d)]) ∧ ∃ F', Duo base w0 w' x bi bf F' (dropU L s d) r a n c M ∧ Pb F' w' r B k q0 :=
  (gdrop_ok w x bi bf F L s d h.g.gr hL).mono fun _ _ ⟨e, F', t⟩ => ⟨e, F', h.turnG t, p.turnG t⟩
theorem tgone (s : Tx) (h : Duo base w0 w x bi bf F L r a n c M) (p : Pb F w r B k q0) (hL : L.length ≤ 1000) :
    Calls Try.prog 17 #[.pointer (some ⟨x, 0, none⟩), .string (bs s)] w fun e w' => e = .returned (.int .i64 (goneN L s : Int)) ∧ ∃ F', Duo base w0 w' x bi bf F' (goneL L s) r a n c M ∧ Pb F' w' r B k q0 :=
  (gone_ok w x bi bf F L s h.g.gr hL).mono fun _ _ ⟨e, F', t⟩ => ⟨e, F', h.turnG t, p.turnG t⟩
theorem tradd (q : Ru) (h : Duo base w0 w x bi bf F L r a n c M) (p : Pb F w r B k q0) (hM : M.length ≤ 1000) (g : GoodU M) :
    Calls Try.prog 13 #[.pointer (some ⟨r, 0, none⟩), ruV q] w fun e w' => e = .returned (.int .i64 (addE M q)) ∧ ∃ a' n' c', Duo base w0 w' x bi bf F L r a' n' c' (addU M q) ∧ Pb F w' r B k q0 :=
  (radd11_any w r a n c M q h.d (by rw [← h.len]; exact hM) g).mono fun _ _ ⟨e, t⟩ => by
    obtain ⟨a', n', c', h1, h2⟩ := h.turnR t
    exact ⟨e, a', n', c', h1, p.turnR h2⟩
theorem trdrop (s d : Tx) (h : Duo base w0 w x bi bf F L r a n c M) (p : Pb F w r B k q0) (hM : M.length ≤ 1000) :
    Calls Try.prog 16 #[.pointer (some ⟨r, 0, none⟩), .string (bs s), .string (bs d)] w fun e w' => e = .returned (.tuple #[ruV (dropR M s d), .int .i64 (dropE M s d)]) ∧ ∃ a' n' c', Duo base w0 w' x bi bf F L r a' n' c' (dropU M s d) ∧ Pb F w' r B k q0 ∧ Tu (fun i => i = r) w w' :=
  (rdrop11_any w r a n c M s d h.d (by rw [← h.len]; exact hM)).mono fun _ _ ⟨e, t⟩ => by
    obtain ⟨a', n', c', h1, h2⟩ := h.turnR t
    exact ⟨e, a', n', c', h1, p.turnR h2, h2⟩
theorem trgone (s : Tx) (h : Duo base w0 w x bi bf F L r a n c M) (p : Pb F w r B k q0) (hM : M.length ≤ 1000) :
    Calls Try.prog 18 #[.pointer (some ⟨r, 0, none⟩), .string (bs s)] w fun e w' => e = .returned (.int .i64 (goneN M s : Int)) ∧ ∃ a' n' c', Duo base w0 w' x bi bf F L r a' n' c' (goneL M s) ∧ Pb F w' r B k q0 :=
  (rgone11_any w r a n c M s h.d (by rw [← h.len]; exact hM)).mono fun _ _ ⟨e, t⟩ => by
    obtain ⟨a', n', c', h1, h2⟩ := h.turnR t
    exact ⟨e, a', n', c', h1, p.turnR h2⟩
/-- A copy is made; then what it was made of turns. -/
theorem tcopy (h : Duo base w0 w x bi bf F L r a n c M) (p : Pb F w r B k q0) (hL : L.length ≤ 1000) :
    Calls Try.prog 19 #[.pointer (some ⟨x, 0, none⟩)] w fun e w' => ∃ y ci cf G, e = .returned (.pointer (some ⟨y, 0, none⟩)) ∧ Duo base w0 w' x bi bf F L r a n c M ∧ Pb F w' r B k q0 ∧ Duo base w0 w' y ci cf G L r a n c M ∧ Pb G w' r B k q0 ∧ Apart x F y G :=
  (ocopy h.g hL).mono fun _ w' ⟨y, ci, cf, G, e, g, b, ap, hy, hG⟩ =>
    ⟨y, ci, cf, G, e, h.keep b, p.keep b,
      ⟨g, h.d.keep b, h.rb, fun f => by have h1 := h.d.lt; have h2 := hG _ f; omega, fun e => by have h1 := h.d.lt; omega, fun ad e => ⟨Nat.lt_of_lt_of_le (h.fa ad e).1 b.size, fun f => by have h1 := (h.fa ad e).1; have h2 := hG _ f; omega⟩⟩,
      ⟨p.p.keep b, fun f => by have h1 := p.p.lt; have h2 := hG _ f; omega, p.pr⟩, ap⟩
theorem tgone2 {y ci cf : Nat} {G : Nat → Prop} (s : Tx) (h : Duo base w0 w x bi bf F L r a n c M) (p : Pb F w r B k q0) (h2 : Duo base w0 w y ci cf G L r a n c M) (p2 : Pb G w r B k q0) (ap : Apart x F y G) (hL : L.length ≤ 1000) :
    Calls Try.prog 17 #[.pointer (some ⟨x, 0, none⟩), .string (bs s)] w fun e w' => e = .returned (.int .i64 (goneN L s : Int)) ∧ Duo base w0 w' y ci cf G L r a n c M ∧ Pb G w' r B k q0 :=
  (gone_ok w x bi bf F L s h.g.gr hL).mono fun _ w' ⟨e, F', t⟩ =>
    ⟨e, ⟨ap.keepG t h2.g h.g, h.d.tu t.tu h.fr (fun ad e => (h.fa ad e).2), h2.rb, h2.fr, h2.xr, fun ad e => ⟨Nat.lt_of_lt_of_le (h2.fa ad e).1 t.tu.size, (h2.fa ad e).2⟩⟩,
      ⟨p.p.tu t.tu p.fp, p2.fp, p2.pr⟩⟩
end
theorem sameP {b1 : Nat} {w : World} {v1 : Value} {l1 l2 : List Ru} {a : Option Addr} {n c : Nat} (h1 : URow 38 w b1 v1 l1) (h2 : RuAt w a n c l2) :
    Calls Try.prog 22 #[v1, .slice a n c] w fun e w' => e = .returned (.bool (decide (l1 = l2))) ∧ Below w.heap.size w w' := by
  obtain ⟨a1, c1, rfl, r1, _⟩ := h1.shape
  exact same11_any a1 a _ n c1 c l1 l2 w r1 h2

end Go.Proofs.Ytlogkhifgkkjeaa
