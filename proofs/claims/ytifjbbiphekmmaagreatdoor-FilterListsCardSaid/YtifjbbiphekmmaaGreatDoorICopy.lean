/-
  Contracts of the index's Size and Copy: ranges over its map of labels.
-/
import Derived.Test.YtifjbbiphekmmaaGreatDoorISet
import Derived.Laws.IdiomRangeMap
namespace Go.Proofs.YtifjbbiphekmmaaGreatDoor
open Go.RowKit
set_option linter.unusedVariables false
set_option linter.unusedSimpArgs false

def lenV9 (v : Value) : Nat := match v with | .slice _ n _ => n | _ => 0
theorem sizeE_of {w : World} {E : List Ent} {T : List (Tx × (Value × List Lb))} (h2 : (T.map mpL).Perm E) (h3 : ∀ p ∈ T, LbV w p.2.1 p.2.2) : ((T.map mpV).map fun p => lenV9 p.2).sum = sizeE E := by
  rw [← size_perm h2]
  unfold sizeE
  rw [List.map_map, List.map_map]
  congr 1
  refine List.map_congr_left (fun p hp => ?_)
  obtain ⟨a, c, e, _⟩ := h3 p hp
  show lenV9 p.2.1 = p.2.2.length
  rw [e]; rfl


/-! Copy. -/
theorem RngAt.iter {w : World} {b r : Nat} {L left : List (Tx × Value)} (h : RngAt w b r L left) : ∃ m s se c, w.heap[r]? = some (.mapIter m s se c) := by
  obtain ⟨es, clock, since, seen, c0, h1, h2, h3, h4, h5, _⟩ := h
  exact ⟨_, _, _, _, h5⟩
theorem Trn.walk {F : Nat → Prop} {w w' : World} {b : Nat} (g : w.grownBy w' (some b)) (hb : F b) (hm : ∃ m s se c, w.heap[b]? = some (.mapIter m s se c)) : Trn F w w' :=
  ⟨g.os, g.tape, g.output, g.size, fun i hi hf => g.block i hi (fun e => hf (by cases e; exact hb)), fun i c t f e => (g.block i (heap_lt e) (fun e' => by
    cases e'
    obtain ⟨m, s, se, cl, hm⟩ := hm
    rw [hm] at e; cases e)).trans e⟩
theorem RhoOk.no_iter {w : World} {ρ : Rho} (h : RhoOk w ρ) {r : Nat} (hr : ∃ m s se c, w.heap[r]? = some (.mapIter m s se c)) : ¬ FA ρ r := by
  intro f
  cases e : ρ r with
  | none => exact f e
  | some q =>
    obtain ⟨es, c, hm⟩ := h r q e
    obtain ⟨m, s, se, cl, hi⟩ := hr
    rw [hm] at hi; cases hi
/-- One of those that are left. -/
theorem left_step {Tl : List (Tx × (Value × List Lb))} {left left' : List (Tx × Value)} {k : Tx} {v : Value} (h : left.Perm (Tl.map mpV)) (hp : left.Perm ((k, v) :: left')) :
    ∃ l Tl', Tl.Perm ((k, v, l) :: Tl') ∧ left'.Perm (Tl'.map mpV) := by
  have hm : (k, v) ∈ Tl.map mpV := h.mem_iff.1 (hp.mem_iff.2 (by simp))
  obtain ⟨⟨k', v', l⟩, ht, e⟩ := List.mem_map.1 hm
  simp only [mpV, Prod.mk.injEq] at e
  obtain ⟨rfl, rfl⟩ := e
  obtain ⟨A, B, rfl⟩ := List.append_of_mem ht
  refine ⟨l, A ++ B, List.perm_middle, ?_⟩
  have h1 : ((k', v') :: left').Perm ((k', v') :: (A ++ B).map mpV) := hp.symm.trans (h.trans ((List.perm_middle).map mpV))
  exact h1.cons_inv


end Go.Proofs.YtifjbbiphekmmaaGreatDoor
