/-
  The iterators over the keys of maps; slices.AppendSeq and Collect of texts, over whatever hands on texts.
-/
import Derived.Test.YtifjbbiphekmmaaGreatDoorIMap
import Derived.RangeFuncNested
import Derived.RangeFuncBound
import Derived.RangeFuncCalls
import Derived.RangeFuncLeaves
import Derived.RangeFuncBox
import Derived.Shelf.Abstract
import Derived.Shelf.RegionOpen
import Derived.WalkKit
import Derived.OwnWalkIn
import Derived.TacticsInMore
import Derived.LoopNIn
import Derived.LoopIn
import Derived.Maps.AppendAt
namespace Go.Proofs.YtifjbbiphekmmaaGreatDoor
open Go.RowKit Go.Shelf
set_option linter.unusedVariables false
set_option linter.unusedSimpArgs false
attribute [local go_sem] Oper.semAt_some

set_option maxRecDepth 100000 in
set_option maxHeartbeats 2000000 in
theorem keysA_in (m : Nat) (hn : 1 ≤ m) (l Bm b : Nat) (L : List (Tx × Value)) (J Jx : List Tx → World → Prop)
    (hY : ∀ pre x W, J pre W → pre.length < L.length → YieldAt Fence.wide (m - 1) Tryz.prog l #[.string (bs x)] W fun e W' =>
      (e = .returned (.bool true) ∧ J (pre ++ [x]) W' ∧ KeepsWalks W W') ∨ (e = .returned (.bool false) ∧ Jx (pre ++ [x]) W'))
    (W : World) (hJ : AbidesFrom W.heap.size J) (hm : W.cell? ⟨Bm, 0, none⟩ = some (.map (some b))) (hL : MapAt W b L) (h0 : J [] W) :
    CallsIn Fence.wide m Tryz.prog 81 #[.func (.yield l) #[] #[], .pointer (some ⟨Bm, 0, none⟩)] W fun e W' => (∃ v, e = .returned v) ∧
      ((∃ ss : List Tx, ss.Perm (keysL L) ∧ J ss W') ∨ (∃ pre : List Tx, True ∧ Jx pre W')) := by
  refine callsIn_of_wp Tryz.func81 rfl trivial ?_ rfl
  simp only [Tryz.ntmps81, List.size_toArray, List.length_cons, List.length_nil, Nat.reduceAdd, Nat.reduceSub, Array.replicate_succ, Array.replicate_zero, List.push_toArray, List.append_toArray, List.nil_append, List.cons_append]
  gi_wp2_with (first
    | (gi_at_range; refine wpListIn_range_m _ rfl _ 93 rfl 9 25 Tryz.underlying93 b L rfl hL ?_; intro w0 hr0 hg0 hs0)
    | gi_in)
  go_frame
  gi_loopw [3] (fun _ wr => ∃ (left : List (Tx × Value)) (ss : List Tx), RngAt wr b W.heap.size L left ∧ (ss ++ keysL left).Perm (keysL L) ∧ J ss wr) (fun _ wr => wr.rangeLeft b W.heap.size)
  case atStart =>
    exact ⟨L, [], hr0, List.Perm.refl _, hJ [] W w0 none h0 hg0 (fun r e => by cases e)⟩
  case round =>
    obtain ⟨left, ss, hrg, hC, hJs⟩ := hrel
    have hlen : ss.length + left.length = L.length := by have := hC.length_eq; simp [keysL] at this; exact this
    gi_wp2_with (first
      | (gi_at_next; refine wpListIn_next_m _ rfl _ rfl b W.heap.size L left rfl hrg ?_ ?_)
      | gi_in)
    · intro h0
      subst h0
      gi_wp2
      go_end0
      exact ⟨⟨_, rfl⟩, .inl ⟨ss, by simpa [keysL] using hC, hJs⟩⟩
    · intro k v left' w2 hp hrg2 hg2 hs2 hen
      have hJ2 : J ss w2 := hJ ss wr w2 (some W.heap.size) hJs hg2 (fun r e => by cases e; exact ⟨Nat.le_refl _, hrg.walk⟩)
      have hll : left.length = left'.length + 1 := by rw [hp.length_eq]; rfl
      have hC2 : (ss ++ [k] ++ keysL left').Perm (keysL L) := by
        have h1 : (keysL left).Perm (k :: keysL left') := hp.map Prod.fst
        rw [List.append_assoc]
        exact (h1.symm.append_left ss).trans hC
      obtain ⟨fn, tmps, assign, body, hy, hR⟩ := hY ss k w2 hJ2 (by omega)
      clear hs2 hp
      gi_wp2
      refine hR.mono ?_
      rintro e W3 (⟨rfl, hJ3, hk3⟩ | ⟨rfl, hJx3⟩)
      · gi_wp2
        have hrg3 := hrg2.of_walks hk3
        go_roundw
        case rel => exact ⟨left', ss ++ [k], hrg3, hC2, hJ3⟩
        case measure => rw [hrg3.left_eq, hrg.left_eq]; omega
      · gi_wp2
        refine bodyPost_ret (results_none rfl _ _ _) rfl ?_
        exact ⟨⟨_, rfl⟩, .inr ⟨ss ++ [k], trivial, hJx3⟩⟩
theorem keysA_stops (m : Nat) (hn : 1 ≤ m) (Bm b : Nat) (L : List (Tx × Value)) (w : World) (hBm : Bm < w.heap.size) (hm : w.cell? ⟨Bm, 0, none⟩ = some (.map (some b))) (hL : MapAt w b L) :
    SeqStopsK Fence.wide m Tryz.prog 81 #[.pointer (some ⟨Bm, 0, none⟩)] (fun x : Tx => #[.string (bs x)]) KeepsWalks (fun ss => ss.Perm (keysL L)) (fun _ => True) L.length w := fun l J Jx W hW hJ _ hY h0 =>
  keysA_in m hn l Bm b L J Jx hY W hJ ((hW.cell (p := ⟨Bm, 0, none⟩) hBm).trans hm) (hL.keep hW) h0
set_option maxRecDepth 100000 in
set_option maxHeartbeats 2000000 in
theorem keysA_nil (m : Nat) (hn : 1 ≤ m) (Bm : Nat) (w : World) (hBm : Bm < w.heap.size) (hm : w.cell? ⟨Bm, 0, none⟩ = some (.map none)) :
    SeqStopsK Fence.wide m Tryz.prog 81 #[.pointer (some ⟨Bm, 0, none⟩)] (fun x : Tx => #[.string (bs x)]) KeepsWalks (fun ss => ss.Perm []) (fun _ => True) 0 w := by
  intro l J Jx W hW hJ _ hY h0
  have hc := (hW.cell (p := ⟨Bm, 0, none⟩) hBm).trans hm
  show CallsIn Fence.wide m Tryz.prog 81 #[.func (.yield l) #[] #[], .pointer (some ⟨Bm, 0, none⟩)] W _
  refine callsIn_of_wp Tryz.func81 rfl trivial ?_ rfl
  simp only [Tryz.ntmps81, List.size_toArray, List.length_cons, List.length_nil, Nat.reduceAdd, Nat.reduceSub, Array.replicate_succ, Array.replicate_zero, List.push_toArray, List.append_toArray, List.nil_append, List.cons_append]
  have hrg := run_range_nilMap (P := Tryz.prog) W 93 9 25 Tryz.underlying93
  have hnx : ∀ ty, (Instr.next (.pointer (some ⟨W.heap.size, 0, none⟩)) false ty).run Tryz.prog (W.alloc (.mapIter none 0 #[] 0)) = _ := fun ty => run_next_nilMap _ ty 0 0 #[]
  gi_wp2
  refine wpIn_loop_rounds 1 ?_
  rw [roundsIn_succ]
  gi_wp2
  go_end0
  exact ⟨⟨_, rfl⟩, .inl ⟨[], List.Perm.refl _, hJ [] W _ none h0 (World.grownBy_alloc W _ none) (fun r e => by cases e)⟩⟩
theorem keysA_call (mb : Option Nat) (w : World) :
    Calls Tryz.prog 54 #[.map mb] w fun e w' => e = .returned (.func (.func 81) #[] #[.pointer (some ⟨w.heap.size, 0, none⟩)]) ∧ w' = w.alloc (.cells #[.map mb] 93) := by
  go_enter Tryz.func54, Tryz.ntmps54
  go_wp2
  go_ret
  exact ⟨rfl, rfl⟩

set_option maxRecDepth 100000 in
set_option maxHeartbeats 2000000 in
theorem keysB_in (m : Nat) (hn : 1 ≤ m) (l Bm b : Nat) (L : List (Tx × Value)) (J Jx : List Tx → World → Prop)
    (hY : ∀ pre x W, J pre W → pre.length < L.length → YieldAt Fence.wide (m - 1) Tryz.prog l #[.string (bs x)] W fun e W' =>
      (e = .returned (.bool true) ∧ J (pre ++ [x]) W' ∧ KeepsWalks W W') ∨ (e = .returned (.bool false) ∧ Jx (pre ++ [x]) W'))
    (W : World) (hJ : AbidesFrom W.heap.size J) (hm : W.cell? ⟨Bm, 0, none⟩ = some (.map (some b))) (hL : MapAt W b L) (h0 : J [] W) :
    CallsIn Fence.wide m Tryz.prog 146 #[.func (.yield l) #[] #[], .pointer (some ⟨Bm, 0, none⟩)] W fun e W' => (∃ v, e = .returned v) ∧
      ((∃ ss : List Tx, ss.Perm (keysL L) ∧ J ss W') ∨ (∃ pre : List Tx, True ∧ Jx pre W')) := by
  refine callsIn_of_wp Tryz.func146 rfl trivial ?_ rfl
  simp only [Tryz.ntmps146, List.size_toArray, List.length_cons, List.length_nil, Nat.reduceAdd, Nat.reduceSub, Array.replicate_succ, Array.replicate_zero, List.push_toArray, List.append_toArray, List.nil_append, List.cons_append]
  gi_wp2_with (first
    | (gi_at_range; refine wpListIn_range_m _ rfl _ 153 rfl 9 154 Tryz.underlying153 b L rfl hL ?_; intro w0 hr0 hg0 hs0)
    | gi_in)
  go_frame
  gi_loopw [3] (fun _ wr => ∃ (left : List (Tx × Value)) (ss : List Tx), RngAt wr b W.heap.size L left ∧ (ss ++ keysL left).Perm (keysL L) ∧ J ss wr) (fun _ wr => wr.rangeLeft b W.heap.size)
  case atStart =>
    exact ⟨L, [], hr0, List.Perm.refl _, hJ [] W w0 none h0 hg0 (fun r e => by cases e)⟩
  case round =>
    obtain ⟨left, ss, hrg, hC, hJs⟩ := hrel
    have hlen : ss.length + left.length = L.length := by have := hC.length_eq; simp [keysL] at this; exact this
    gi_wp2_with (first
      | (gi_at_next; refine wpListIn_next_m _ rfl _ rfl b W.heap.size L left rfl hrg ?_ ?_)
      | gi_in)
    · intro h0
      subst h0
      gi_wp2
      go_end0
      exact ⟨⟨_, rfl⟩, .inl ⟨ss, by simpa [keysL] using hC, hJs⟩⟩
    · intro k v left' w2 hp hrg2 hg2 hs2 hen
      have hJ2 : J ss w2 := hJ ss wr w2 (some W.heap.size) hJs hg2 (fun r e => by cases e; exact ⟨Nat.le_refl _, hrg.walk⟩)
      have hll : left.length = left'.length + 1 := by rw [hp.length_eq]; rfl
      have hC2 : (ss ++ [k] ++ keysL left').Perm (keysL L) := by
        have h1 : (keysL left).Perm (k :: keysL left') := hp.map Prod.fst
        rw [List.append_assoc]
        exact (h1.symm.append_left ss).trans hC
      obtain ⟨fn, tmps, assign, body, hy, hR⟩ := hY ss k w2 hJ2 (by omega)
      clear hs2 hp
      gi_wp2
      refine hR.mono ?_
      rintro e W3 (⟨rfl, hJ3, hk3⟩ | ⟨rfl, hJx3⟩)
      · gi_wp2
        have hrg3 := hrg2.of_walks hk3
        go_roundw
        case rel => exact ⟨left', ss ++ [k], hrg3, hC2, hJ3⟩
        case measure => rw [hrg3.left_eq, hrg.left_eq]; omega
      · gi_wp2
        refine bodyPost_ret (results_none rfl _ _ _) rfl ?_
        exact ⟨⟨_, rfl⟩, .inr ⟨ss ++ [k], trivial, hJx3⟩⟩
theorem keysB_stops (m : Nat) (hn : 1 ≤ m) (Bm b : Nat) (L : List (Tx × Value)) (w : World) (hBm : Bm < w.heap.size) (hm : w.cell? ⟨Bm, 0, none⟩ = some (.map (some b))) (hL : MapAt w b L) :
    SeqStopsK Fence.wide m Tryz.prog 146 #[.pointer (some ⟨Bm, 0, none⟩)] (fun x : Tx => #[.string (bs x)]) KeepsWalks (fun ss => ss.Perm (keysL L)) (fun _ => True) L.length w := fun l J Jx W hW hJ _ hY h0 =>
  keysB_in m hn l Bm b L J Jx hY W hJ ((hW.cell (p := ⟨Bm, 0, none⟩) hBm).trans hm) (hL.keep hW) h0
set_option maxRecDepth 100000 in
set_option maxHeartbeats 2000000 in
theorem keysB_nil (m : Nat) (hn : 1 ≤ m) (Bm : Nat) (w : World) (hBm : Bm < w.heap.size) (hm : w.cell? ⟨Bm, 0, none⟩ = some (.map none)) :
    SeqStopsK Fence.wide m Tryz.prog 146 #[.pointer (some ⟨Bm, 0, none⟩)] (fun x : Tx => #[.string (bs x)]) KeepsWalks (fun ss => ss.Perm []) (fun _ => True) 0 w := by
  intro l J Jx W hW hJ _ hY h0
  have hc := (hW.cell (p := ⟨Bm, 0, none⟩) hBm).trans hm
  show CallsIn Fence.wide m Tryz.prog 146 #[.func (.yield l) #[] #[], .pointer (some ⟨Bm, 0, none⟩)] W _
  refine callsIn_of_wp Tryz.func146 rfl trivial ?_ rfl
  simp only [Tryz.ntmps146, List.size_toArray, List.length_cons, List.length_nil, Nat.reduceAdd, Nat.reduceSub, Array.replicate_succ, Array.replicate_zero, List.push_toArray, List.append_toArray, List.nil_append, List.cons_append]
  have hrg := run_range_nilMap (P := Tryz.prog) W 153 9 154 Tryz.underlying153
  have hnx : ∀ ty, (Instr.next (.pointer (some ⟨W.heap.size, 0, none⟩)) false ty).run Tryz.prog (W.alloc (.mapIter none 0 #[] 0)) = _ := fun ty => run_next_nilMap _ ty 0 0 #[]
  gi_wp2
  refine wpIn_loop_rounds 1 ?_
  rw [roundsIn_succ]
  gi_wp2
  go_end0
  exact ⟨⟨_, rfl⟩, .inl ⟨[], List.Perm.refl _, hJ [] W _ none h0 (World.grownBy_alloc W _ none) (fun r e => by cases e)⟩⟩
theorem keysB_call (mb : Option Nat) (w : World) :
    Calls Tryz.prog 121 #[.map mb] w fun e w' => e = .returned (.func (.func 146) #[] #[.pointer (some ⟨w.heap.size, 0, none⟩)]) ∧ w' = w.alloc (.cells #[.map mb] 153) := by
  go_enter Tryz.func121, Tryz.ntmps121
  go_wp2
  go_ret
  exact ⟨rfl, rfl⟩

theorem walks_of_others {W W' : World} (h : KeepsOthers W W') : KeepsWalks W W' := ⟨h.size, fun k o e hw => h.same k o e (Obj.not_cells_of_walk hw)⟩
theorem ownFrom_walks {β : Type} {B : Nat} {w : World} (hB : w.heap.size ≤ B) : OwnFrom B (fun (_ : β) W => KeepsWalks w W) :=
  fun _ W W' row hs hg hr => ⟨Nat.le_trans hs.size hg.size, fun k o hk ho => (hg.block k (Nat.lt_of_lt_of_le (heap_lt hk) hs.size) (fun e => by
    have := (hr k e.symm).1
    have := heap_lt hk
    omega)).trans (hs.same k o hk ho)⟩

set_option maxRecDepth 100000 in
set_option maxHeartbeats 2000000 in
theorem appendSeq_any (gf : Nat) (lb : Array Value) (eg : ∀ args w, (callFunc gf args).run Tryz.prog w = .ok (.enter gf args) w) (S : List Tx → Prop) (N base : Nat) (a : Option Addr) (n0 c : Nat) (l0 : List Tx) (w : World)
    (hseq : SeqStopsK Fence.wide 2 Tryz.prog gf lb (fun x : Tx => #[.string (bs x)]) KeepsWalks S (fun _ => True) N w) (hN : n0 + N ≤ 1000000) (hn0 : l0.length = n0) (hrow : TRow w base (.slice a n0 c) l0) (hbase : base ≤ w.heap.size) :
    Calls Tryz.prog 80 #[.slice a n0 c, .func (.func gf) #[] lb] w fun e w' => ∃ v ss, e = .returned v ∧ S ss ∧ TRow w' base v (l0 ++ ss) ∧ Below base w w' ∧ KeepsWalks w w' := by
  obtain ⟨i0, hi, hz0, hz1, hz2⟩ := info_parts info_tx
  have hrow' : w.ownsRow base 9 1 (.slice a n0 c) n0 (l0.map tc) := by have h := hrow; unfold TRow at h; rw [hn0] at h; exact h
  have HN0 := Lib.hid hn0
  clear hrow hn0
  refine (callsIn_wide (n := 3)).1 ?_
  refine callsIn_of_wp_marks Tryz.func80 rfl trivial ?_ rfl
  simp only [Tryz.ntmps80, List.size_toArray, List.length_cons, List.length_nil, Nat.reduceAdd, Nat.reduceSub, Array.replicate_succ, Array.replicate_zero, List.push_toArray, List.append_toArray, List.nil_append, List.cons_append]
  gi_wp2
  have bO := Boxed.new w 22 (.slice a n0 c)
  have hB0 : Below w.heap.size w (w.alloc (.cells #[.slice a n0 c] 22)) := (Below.refl _ w).alloc (Nat.le_refl _) _
  refine wpIn_rangeFunc_ownF rfl (by omega) (gf := gf) (lb := lb) rfl trivial eg hseq walksK_t walksK_b hB0 (fun _ => rfl)
    (fun pre W => (∃ v, Boxed W w.heap.size 22 v ∧ W.ownsRow base 9 1 v (n0 + pre.length) ((l0 ++ pre).map tc) ∧ True) ∧ (Below base w W ∧ KeepsWalks w W))
    (fun _ _ _ => False)
    (OwnFrom.and (Own.from (holdsRow_own base w.heap.size 22 9 1 (fun pre => n0 + pre.length) (fun pre => (l0 ++ pre).map tc) (fun _ _ => True)) _) (OwnFrom.and (ownFrom_below hbase (by simp; omega)) (ownFrom_walks (by simp))))
    (fun _ _ _ _ _ hs _ _ => hs)
    ⟨⟨_, bO, by rw [List.append_nil]; exact World.ownsRow.alloc hrow' _, trivial⟩, hB0.mono hbase, KeepsWalks.alloc w _⟩
    (fun x => { tmps := #[.slice a n0 c, .func (.func gf) #[] lb, .pointer (some ⟨w.heap.size, 0, none⟩), undef, .slice none 0 0, .string (bs x), .func (.func gf) #[] lb, .string (bs x), undef, undef, undef, undef, undef], defers := [] }) ?assign ?body ?done ?stop
  case assign =>
    intro l x W K hK
    gi_wp2
    exact hK
  case body =>
    rintro l pre x W ⟨⟨v, hv, hrow, _⟩, hB, hkw⟩ hlt
    have hc := hv.cell
    have hll : n0 + pre.length < 1000000 := by omega
    have hsz := hB.size
    gi_wp2_with (gi_at_builtin; refine wpListIn_append_own _ rfl _ _ 22 rfl base 9 i0 _ 1 16 Tryz.underlying22 hi hz0 hz1 hz2 rfl (by decide) _ _ _ rfl (hrow.alloc _) ⟨W.heap.size, 0, none⟩ 1 1 [tc x] rfl rfl (cell_one_new _ _ _) (by simp [Value.oneCell', tc]) (by unfold maxLen; omega) (by omega) (by simp; omega) ?_; intro v' w1 hown' hgrow _; obtain ⟨g', cap', rfl⟩ := ownsRow_succ hown'; obtain ⟨hv1, hv2, hr2, hk2, hb2⟩ := hv.appended (by decide) hrow (by omega) hbase hown' hgrow; have hc1 := hv1.cell; have hf1 := hv1.frozen)
    refine ⟨hk2, walks_of_others hk2, ⟨_, hv2, ?_, trivial⟩, hB.trans hb2, hkw.trans (walks_of_others hk2)⟩
    have e : l0 ++ (pre ++ [x]) = (l0 ++ pre) ++ [x] := (List.append_assoc ..).symm
    rw [e, List.map_append, List.length_append]
    exact hr2
  case done =>
    rintro D ss W hD hS ⟨⟨v, hv, hrow, _⟩, hB, hkw⟩ hK
    have hc := hv.cell
    gi_wp2
    refine ⟨by simp, .inl ⟨_, _, rfl, run_takeDeferred hK, ?_⟩⟩
    refine ⟨_, results_tmp rfl _ _ _, v, ss, rfl, hS, by unfold TRow; rw [List.length_append, HN0.out]; exact ownsRow_putObj hrow _ hK rfl, hB.trans (belowK_b (w := w) hbase W D _ _ (by simp at hD; omega) hK rfl rfl), hkw.trans (KeepsWalks.putObj _ hK rfl)⟩
  case stop =>
    rintro D c pre W _ _ h _
    exact h.elim

/-- slices.Collect: a new list of what is handed on. -/
theorem collect_any (gf : Nat) (lb : Array Value) (eg : ∀ args w, (callFunc gf args).run Tryz.prog w = .ok (.enter gf args) w) (S : List Tx → Prop) (N : Nat) (w : World)
    (hseq : SeqStopsK Fence.wide 2 Tryz.prog gf lb (fun x : Tx => #[.string (bs x)]) KeepsWalks S (fun _ => True) N w) (hN : N ≤ 1000000) :
    Calls Tryz.prog 53 #[.func (.func gf) #[] lb] w fun e w' => ∃ a c ss, e = .returned (.slice a ss.length c) ∧ S ss ∧ TxAt w' a ss.length c ss ∧ Below w.heap.size w w' := by
  have HA := Lib.hid (appendSeq_any gf lb eg S N w.heap.size none 0 0 [] w hseq (by omega) rfl (TRow.nil _ _) (Nat.le_refl _))
  clear hseq
  go_enter Tryz.func53, Tryz.ntmps53
  go_wp2_with fail
  refine HA.out.mono ?_
  rintro e w1 ⟨v, ss, rfl, hS, R1, b1, _⟩
  rw [List.nil_append] at R1
  obtain ⟨a1, c1, rfl, t1⟩ := R1.shape
  have T1 := Lib.hid t1
  have B1 := Lib.hid b1
  have HS := Lib.hid hS
  clear R1 t1 b1 hS HA
  generalize hq : ss.length = q at *
  have HQ := Lib.hid hq
  clear hq
  go_wp2
  go_ret
  exact ⟨a1, c1, ss, by rw [HQ.out]; rfl, HS.out, by rw [HQ.out]; exact T1.out, B1.out⟩

end Go.Proofs.YtifjbbiphekmmaaGreatDoor
