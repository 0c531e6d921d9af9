/-
  A region that draws its order, walked operation by operation; where several orders meet, the rest is walked once.
-/
import Derived.Test.YtifjbbiphekmmaaGreatDoorFMath
import Derived.Deep.RegionHeld3
namespace Go.Proofs.YtifjbbiphekmmaaGreatDoor
set_option linter.unusedVariables false
set_option linter.unusedSimpArgs false

theorem op_drop {l : List Oper} {i : Nat} {o : Oper} {rest : List Oper} (h : l.drop i = o :: rest) : l.toArray[i]? = some o := by
  rw [List.getElem?_toArray, ← List.head?_drop, h]; rfl
section
variable {P : Program} {l : List Oper} {Q : Exit → Act → World → Prop} {md : Region.Mode} {S : World → Prop} {fuel : Nat} {listed : Array Bool} {a : Act} {w : World}
theorem op_take {i : Nat} {oi : Oper} {rest : List Oper} {v : Value} (hd : l.drop i = oi :: rest)
    (hs : Region.noSelect l.toArray = true) (hf : Region.free md l.toArray listed i = true) (hr : (Region.ready md l.toArray listed).contains i = true)
    (hQ : ∀ c a w, Q (.panic c) (a.put oi.dst v) w → Q (.panic c) a w) (hy : YieldsIf P l.toArray S oi v a) (hS : S w)
    (h : wpAnyH P md l.toArray Q S fuel (listed.setIfInBounds i true) (a.put oi.dst v) w) : wpAnyH P md l.toArray Q S (fuel + 1) listed a w := wpAnyH_take (op_drop hd) hs hf hr hQ hy hS h
theorem op_one {i : Nat} {o : Oper} {rest : List Oper} (hr : Region.ready md l.toArray listed = [i]) (hd : l.drop i = o :: rest)
    (h : ∀ K' : Act → World → Prop, Shut (∀ a w, S w → (S w → wpAnyH P md l.toArray Q S fuel (listed.setIfInBounds i true) a w) → K' a w) → if Region.wanted o (yielded l.toArray a.tmps) = true then Oper.wp P o a w K' Q else K' (a.put o.dst undef) w) :
    wpAnyH P md l.toArray Q S (fuel + 1) listed a w := wpAnyH_ready hr (by simp) (AllReadyH.cons (op_drop hd) h AllReadyH.nil)
theorem op_two {i j : Nat} {o p : Oper} {rest rest' : List Oper} (hr : Region.ready md l.toArray listed = [i, j]) (hd : l.drop i = o :: rest) (hd' : l.drop j = p :: rest')
    (h : ∀ K' : Act → World → Prop, Shut (∀ a w, S w → (S w → wpAnyH P md l.toArray Q S fuel (listed.setIfInBounds i true) a w) → K' a w) → if Region.wanted o (yielded l.toArray a.tmps) = true then Oper.wp P o a w K' Q else K' (a.put o.dst undef) w)
    (h' : ∀ K' : Act → World → Prop, Shut (∀ a w, S w → (S w → wpAnyH P md l.toArray Q S fuel (listed.setIfInBounds j true) a w) → K' a w) → if Region.wanted p (yielded l.toArray a.tmps) = true then Oper.wp P p a w K' Q else K' (a.put p.dst undef) w) :
    wpAnyH P md l.toArray Q S (fuel + 1) listed a w := wpAnyH_ready hr (by simp) (AllReadyH.cons (op_drop hd) h (AllReadyH.cons (op_drop hd') h' AllReadyH.nil))
/-- Orders meet: where they do, the rest is walked once, for whatever block (and slice) the orders made. -/
theorem meet1 (FX : Nat → World → Prop) {fuel' : Nat} {listed' : Array Bool} {act : Nat → Act}
    (walk : (∀ b w', FX b w' → wpAnyH P md l.toArray Q S fuel' listed' (act b) w') → wpAnyH P md l.toArray Q S fuel listed a w)
    (rest : ∀ b w', FX b w' → wpAnyH P md l.toArray Q S fuel' listed' (act b) w') : wpAnyH P md l.toArray Q S fuel listed a w := walk rest
theorem meet3 (FX : Option Addr → Nat → Nat → World → Prop) {fuel' : Nat} {listed' : Array Bool} {act : Option Addr → Nat → Nat → Act}
    (walk : (∀ p c b w', FX p c b w' → wpAnyH P md l.toArray Q S fuel' listed' (act p c b) w') → wpAnyH P md l.toArray Q S fuel listed a w)
    (rest : ∀ p c b w', FX p c b w' → wpAnyH P md l.toArray Q S fuel' listed' (act p c b) w') : wpAnyH P md l.toArray Q S fuel listed a w := walk rest
theorem meet4 (FX : Option Addr → Nat → Nat → Nat → World → Prop) {fuel' : Nat} {listed' : Array Bool} {act : Option Addr → Nat → Nat → Nat → Act}
    (walk : (∀ p c b d w', FX p c b d w' → wpAnyH P md l.toArray Q S fuel' listed' (act p c b d) w') → wpAnyH P md l.toArray Q S fuel listed a w)
    (rest : ∀ p c b d w', FX p c b d w' → wpAnyH P md l.toArray Q S fuel' listed' (act p c b d) w') : wpAnyH P md l.toArray Q S fuel listed a w := walk rest
end
end Go.Proofs.YtifjbbiphekmmaaGreatDoor
