/-
  slices.AppendSeq and Collect of texts, over whatever hands on texts.
-/
import Derived.Test.YtlogkhifgkkjeaaIMap
import Derived.RangeFuncNested
import Derived.RangeFuncBound
import Derived.RangeFuncCalls
import Derived.RangeFuncLeaves
import Derived.RangeFuncBox
import Derived.Shelf.Abstract
import Derived.Shelf.RegionOpen
import Derived.WalkKit
import Derived.OwnWalkIn
import Derived.TacticsInMore
import Derived.LoopNIn
import Derived.LoopIn
import Derived.Maps.AppendAt
namespace Go.Proofs.Ytlogkhifgkkjeaa
open Go.RowKit Go.Shelf
set_option linter.unusedVariables false
set_option linter.unusedSimpArgs false
attribute [local go_sem] Oper.semAt_some

theorem walks_of_others {W W' : World} (h : KeepsOthers W W') : KeepsWalks W W' := ⟨h.size, fun k o e hw => h.same k o e (Obj.not_cells_of_walk hw)⟩
theorem ownFrom_walks {β : Type} {B : Nat} {w : World} (hB : w.heap.size ≤ B) : OwnFrom B (fun (_ : β) W => KeepsWalks w W) :=
  fun _ W W' row hs hg hr => ⟨Nat.le_trans hs.size hg.size, fun k o hk ho => (hg.block k (Nat.lt_of_lt_of_le (heap_lt hk) hs.size) (fun e => by
    have := (hr k e.symm).1
    have := heap_lt hk
    omega)).trans (hs.same k o hk ho)⟩

set_option maxRecDepth 100000 in
set_option maxHeartbeats 2000000 in
theorem appendSeq_any (gf : Nat) (lb : Array Value) (eg : ∀ args w, (callFunc gf args).run Try.prog w = .ok (.enter gf args) w) (S : List Tx → Prop) (N base : Nat) (a : Option Addr) (n0 c : Nat) (l0 : List Tx) (w : World)
    (hseq : SeqStopsK Fence.wide 2 Try.prog gf lb (fun x : Tx => #[.string (bs x)]) KeepsWalks S (fun _ => True) N w) (hN : n0 + N ≤ 1000000) (hn0 : l0.length = n0) (hrow : TRow w base (.slice a n0 c) l0) (hbase : base ≤ w.heap.size) :
    Calls Try.prog 56 #[.slice a n0 c, .func (.func gf) #[] lb] w fun e w' => ∃ v ss, e = .returned v ∧ S ss ∧ TRow w' base v (l0 ++ ss) ∧ Below base w w' ∧ KeepsWalks w w' := by
  obtain ⟨i0, hi, hz0, hz1, hz2⟩ := info_parts info_tx
  have hrow' : w.ownsRow base 9 1 (.slice a n0 c) n0 (l0.map tc) := by have h := hrow; unfold TRow at h; rw [hn0] at h; exact h
  have HN0 := Lib.hid hn0
  clear hrow hn0
  refine (callsIn_wide (n := 3)).1 ?_
  refine callsIn_of_wp_marks Try.func56 rfl trivial ?_ rfl
  simp only [Try.ntmps56, List.size_toArray, List.length_cons, List.length_nil, Nat.reduceAdd, Nat.reduceSub, Array.replicate_succ, Array.replicate_zero, List.push_toArray, List.append_toArray, List.nil_append, List.cons_append]
  gi_wp2
  have bO := Boxed.new w 69 (.slice a n0 c)
  have hB0 : Below w.heap.size w (w.alloc (.cells #[.slice a n0 c] 69)) := (Below.refl _ w).alloc (Nat.le_refl _) _
  refine wpIn_rangeFunc_ownF rfl (by omega) (gf := gf) (lb := lb) rfl trivial eg hseq walksK_t walksK_b hB0 (fun _ => rfl)
    (fun pre W => (∃ v, Boxed W w.heap.size 69 v ∧ W.ownsRow base 9 1 v (n0 + pre.length) ((l0 ++ pre).map tc) ∧ True) ∧ (Below base w W ∧ KeepsWalks w W))
    (fun _ _ _ => False)
    (OwnFrom.and (Own.from (holdsRow_own base w.heap.size 69 9 1 (fun pre => n0 + pre.length) (fun pre => (l0 ++ pre).map tc) (fun _ _ => True)) _) (OwnFrom.and (ownFrom_below hbase (by simp; omega)) (ownFrom_walks (by simp))))
    (fun _ _ _ _ _ hs _ _ => hs)
    ⟨⟨_, bO, by rw [List.append_nil]; exact World.ownsRow.alloc hrow' _, trivial⟩, hB0.mono hbase, KeepsWalks.alloc w _⟩
    (fun x => { tmps := #[.slice a n0 c, .func (.func gf) #[] lb, .pointer (some ⟨w.heap.size, 0, none⟩), undef, .slice none 0 0, .string (bs x), .func (.func gf) #[] lb, .string (bs x), undef, undef, undef, undef, undef], defers := [] }) ?assign ?body ?done ?stop
  case assign =>
    intro l x W K hK
    gi_wp2
    exact hK
  case body =>
    rintro l pre x W ⟨⟨v, hv, hrow, _⟩, hB, hkw⟩ hlt
    have hc := hv.cell
    have hll : n0 + pre.length < 1000000 := by omega
    have hsz := hB.size
    gi_wp2_with (gi_at_builtin; refine wpListIn_append_own _ rfl _ _ 69 rfl base 9 i0 _ 1 16 Try.underlying69 hi hz0 hz1 hz2 rfl (by decide) _ _ _ rfl (hrow.alloc _) ⟨W.heap.size, 0, none⟩ 1 1 [tc x] rfl rfl (cell_one_new _ _ _) (by simp [Value.oneCell', tc]) (by unfold maxLen; omega) (by omega) (by simp; omega) ?_; intro v' w1 hown' hgrow _; obtain ⟨g', cap', rfl⟩ := ownsRow_succ hown'; obtain ⟨hv1, hv2, hr2, hk2, hb2⟩ := hv.appended (by decide) hrow (by omega) hbase hown' hgrow; have hc1 := hv1.cell; have hf1 := hv1.frozen)
    refine ⟨hk2, walks_of_others hk2, ⟨_, hv2, ?_, trivial⟩, hB.trans hb2, hkw.trans (walks_of_others hk2)⟩
    have e : l0 ++ (pre ++ [x]) = (l0 ++ pre) ++ [x] := (List.append_assoc ..).symm
    rw [e, List.map_append, List.length_append]
    exact hr2
  case done =>
    rintro D ss W hD hS ⟨⟨v, hv, hrow, _⟩, hB, hkw⟩ hK
    have hc := hv.cell
    gi_wp2
    refine ⟨by simp, .inl ⟨_, _, rfl, run_takeDeferred hK, ?_⟩⟩
    refine ⟨_, results_tmp rfl _ _ _, v, ss, rfl, hS, by unfold TRow; rw [List.length_append, HN0.out]; exact ownsRow_putObj hrow _ hK rfl, hB.trans (belowK_b (w := w) hbase W D _ _ (by simp at hD; omega) hK rfl rfl), hkw.trans (KeepsWalks.putObj _ hK rfl)⟩
  case stop =>
    rintro D c pre W _ _ h _
    exact h.elim

/-- slices.Collect: a new list of what is handed on. -/
theorem collect_any (gf : Nat) (lb : Array Value) (eg : ∀ args w, (callFunc gf args).run Try.prog w = .ok (.enter gf args) w) (S : List Tx → Prop) (N : Nat) (w : World)
    (hseq : SeqStopsK Fence.wide 2 Try.prog gf lb (fun x : Tx => #[.string (bs x)]) KeepsWalks S (fun _ => True) N w) (hN : N ≤ 1000000) :
    Calls Try.prog 39 #[.func (.func gf) #[] lb] w fun e w' => ∃ a c ss, e = .returned (.slice a ss.length c) ∧ S ss ∧ TxAt w' a ss.length c ss ∧ Below w.heap.size w w' := by
  have HA := Lib.hid (appendSeq_any gf lb eg S N w.heap.size none 0 0 [] w hseq (by omega) rfl (TRow.nil _ _) (Nat.le_refl _))
  clear hseq
  go_enter Try.func39, Try.ntmps39
  go_wp2_with fail
  refine HA.out.mono ?_
  rintro e w1 ⟨v, ss, rfl, hS, R1, b1, _⟩
  rw [List.nil_append] at R1
  obtain ⟨a1, c1, rfl, t1⟩ := R1.shape
  have T1 := Lib.hid t1
  have B1 := Lib.hid b1
  have HS := Lib.hid hS
  clear R1 t1 b1 hS HA
  generalize hq : ss.length = q at *
  have HQ := Lib.hid hq
  clear hq
  go_wp2
  go_ret
  exact ⟨a1, c1, ss, by rw [HQ.out]; rfl, HS.out, by rw [HQ.out]; exact T1.out, B1.out⟩

end Go.Proofs.Ytlogkhifgkkjeaa
