/-
  The iterator over the keys of a graph's map.
-/
import Derived.Test.YtlogkhifgkkjeaaIColl
import Derived.RangeFuncNested
import Derived.RangeFuncBound
import Derived.RangeFuncCalls
import Derived.RangeFuncLeaves
import Derived.RangeFuncBox
import Derived.Shelf.Abstract
import Derived.Shelf.RegionOpen
import Derived.WalkKit
import Derived.OwnWalkIn
import Derived.TacticsInMore
import Derived.LoopNIn
import Derived.LoopIn
import Derived.Maps.AppendAt
namespace Go.Proofs.Ytlogkhifgkkjeaa
open Go.RowKit Go.Shelf
set_option linter.unusedVariables false
set_option linter.unusedSimpArgs false
attribute [local go_sem] Oper.semAt_some

set_option maxRecDepth 100000 in
set_option maxHeartbeats 2000000 in
theorem keysR_in (m : Nat) (hn : 1 ≤ m) (l Bm b : Nat) (L : List (Tx × Value)) (J Jx : List Tx → World → Prop)
    (hY : ∀ pre x W, J pre W → pre.length < L.length → YieldAt Fence.wide (m - 1) Try.prog l #[.string (bs x)] W fun e W' =>
      (e = .returned (.bool true) ∧ J (pre ++ [x]) W' ∧ KeepsWalks W W') ∨ (e = .returned (.bool false) ∧ Jx (pre ++ [x]) W'))
    (W : World) (hJ : AbidesFrom W.heap.size J) (hm : W.cell? ⟨Bm, 0, none⟩ = some (.map (some b))) (hL : MapAt W b L) (h0 : J [] W) :
    CallsIn Fence.wide m Try.prog 57 #[.func (.yield l) #[] #[], .pointer (some ⟨Bm, 0, none⟩)] W fun e W' => (∃ v, e = .returned v) ∧
      ((∃ ss : List Tx, ss.Perm (keysL L) ∧ J ss W') ∨ (∃ pre : List Tx, True ∧ Jx pre W')) := by
  refine callsIn_of_wp Try.func57 rfl trivial ?_ rfl
  simp only [Try.ntmps57, List.size_toArray, List.length_cons, List.length_nil, Nat.reduceAdd, Nat.reduceSub, Array.replicate_succ, Array.replicate_zero, List.push_toArray, List.append_toArray, List.nil_append, List.cons_append]
  gi_wp2_with (first
    | (gi_at_range; refine wpListIn_range_m _ rfl _ 61 rfl 9 51 Try.underlying61 b L rfl hL ?_; intro w0 hr0 hg0 hs0)
    | gi_in)
  go_frame
  gi_loopw [3] (fun _ wr => ∃ (left : List (Tx × Value)) (ss : List Tx), RngAt wr b W.heap.size L left ∧ (ss ++ keysL left).Perm (keysL L) ∧ J ss wr) (fun _ wr => wr.rangeLeft b W.heap.size)
  case atStart =>
    exact ⟨L, [], hr0, List.Perm.refl _, hJ [] W w0 none h0 hg0 (fun r e => by cases e)⟩
  case round =>
    obtain ⟨left, ss, hrg, hC, hJs⟩ := hrel
    have hlen : ss.length + left.length = L.length := by have := hC.length_eq; simp [keysL] at this; exact this
    gi_wp2_with (first
      | (gi_at_next; refine wpListIn_next_m _ rfl _ rfl b W.heap.size L left rfl hrg ?_ ?_)
      | gi_in)
    · intro h0
      subst h0
      gi_wp2
      go_end0
      exact ⟨⟨_, rfl⟩, .inl ⟨ss, by simpa [keysL] using hC, hJs⟩⟩
    · intro k v left' w2 hp hrg2 hg2 hs2 hen
      have hJ2 : J ss w2 := hJ ss wr w2 (some W.heap.size) hJs hg2 (fun r e => by cases e; exact ⟨Nat.le_refl _, hrg.walk⟩)
      have hll : left.length = left'.length + 1 := by rw [hp.length_eq]; rfl
      have hC2 : (ss ++ [k] ++ keysL left').Perm (keysL L) := by
        have h1 : (keysL left).Perm (k :: keysL left') := hp.map Prod.fst
        rw [List.append_assoc]
        exact (h1.symm.append_left ss).trans hC
      obtain ⟨fn, tmps, assign, body, hy, hR⟩ := hY ss k w2 hJ2 (by omega)
      clear hs2 hp
      gi_wp2
      refine hR.mono ?_
      rintro e W3 (⟨rfl, hJ3, hk3⟩ | ⟨rfl, hJx3⟩)
      · gi_wp2
        have hrg3 := hrg2.of_walks hk3
        go_roundw
        case rel => exact ⟨left', ss ++ [k], hrg3, hC2, hJ3⟩
        case measure => rw [hrg3.left_eq, hrg.left_eq]; omega
      · gi_wp2
        refine bodyPost_ret (results_none rfl _ _ _) rfl ?_
        exact ⟨⟨_, rfl⟩, .inr ⟨ss ++ [k], trivial, hJx3⟩⟩
theorem keysR_stops (m : Nat) (hn : 1 ≤ m) (Bm b : Nat) (L : List (Tx × Value)) (w : World) (hBm : Bm < w.heap.size) (hm : w.cell? ⟨Bm, 0, none⟩ = some (.map (some b))) (hL : MapAt w b L) :
    SeqStopsK Fence.wide m Try.prog 57 #[.pointer (some ⟨Bm, 0, none⟩)] (fun x : Tx => #[.string (bs x)]) KeepsWalks (fun ss => ss.Perm (keysL L)) (fun _ => True) L.length w := fun l J Jx W hW hJ _ hY h0 =>
  keysR_in m hn l Bm b L J Jx hY W hJ ((hW.cell (p := ⟨Bm, 0, none⟩) hBm).trans hm) (hL.keep hW) h0
set_option maxRecDepth 100000 in
set_option maxHeartbeats 2000000 in
theorem keysR_nil (m : Nat) (hn : 1 ≤ m) (Bm : Nat) (w : World) (hBm : Bm < w.heap.size) (hm : w.cell? ⟨Bm, 0, none⟩ = some (.map none)) :
    SeqStopsK Fence.wide m Try.prog 57 #[.pointer (some ⟨Bm, 0, none⟩)] (fun x : Tx => #[.string (bs x)]) KeepsWalks (fun ss => ss.Perm []) (fun _ => True) 0 w := by
  intro l J Jx W hW hJ _ hY h0
  have hc := (hW.cell (p := ⟨Bm, 0, none⟩) hBm).trans hm
  show CallsIn Fence.wide m Try.prog 57 #[.func (.yield l) #[] #[], .pointer (some ⟨Bm, 0, none⟩)] W _
  refine callsIn_of_wp Try.func57 rfl trivial ?_ rfl
  simp only [Try.ntmps57, List.size_toArray, List.length_cons, List.length_nil, Nat.reduceAdd, Nat.reduceSub, Array.replicate_succ, Array.replicate_zero, List.push_toArray, List.append_toArray, List.nil_append, List.cons_append]
  have hrg := run_range_nilMap (P := Try.prog) W 61 9 51 Try.underlying61
  have hnx : ∀ ty, (Instr.next (.pointer (some ⟨W.heap.size, 0, none⟩)) false ty).run Try.prog (W.alloc (.mapIter none 0 #[] 0)) = _ := fun ty => run_next_nilMap _ ty 0 0 #[]
  gi_wp2
  refine wpIn_loop_rounds 1 ?_
  rw [roundsIn_succ]
  gi_wp2
  go_end0
  exact ⟨⟨_, rfl⟩, .inl ⟨[], List.Perm.refl _, hJ [] W _ none h0 (World.grownBy_alloc W _ none) (fun r e => by cases e)⟩⟩
theorem keysR_call (mb : Option Nat) (w : World) :
    Calls Try.prog 40 #[.map mb] w fun e w' => e = .returned (.func (.func 57) #[] #[.pointer (some ⟨w.heap.size, 0, none⟩)]) ∧ w' = w.alloc (.cells #[.map mb] 61) := by
  go_enter Try.func40, Try.ntmps40
  go_wp2
  go_ret
  exact ⟨rfl, rfl⟩

end Go.Proofs.Ytlogkhifgkkjeaa
