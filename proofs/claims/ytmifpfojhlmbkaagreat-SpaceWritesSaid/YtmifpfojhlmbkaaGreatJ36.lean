/-
  Contracts.
-/
import Derived.Test.YtmifpfojhlmbkaaGreatJ0
import Derived.Test.YtmifpfojhlmbkaaGreatJ1
import Derived.Test.YtmifpfojhlmbkaaGreatJ32
import Derived.Test.YtmifpfojhlmbkaaGreatJ34
import Derived.Test.YtmifpfojhlmbkaaGreatJ35
import Derived.Lib.OwnBridge
import Derived.Sort.OwnSorted
import Derived.RangeFuncNested
import Derived.RangeFuncBound
import Derived.RangeFuncCalls
import Derived.RangeFuncLeaves
import Derived.RangeFuncBox
import Derived.Shelf.Abstract
import Derived.Shelf.RegionOpen
import Derived.WalkKit
import Derived.OwnWalkIn
import Derived.TacticsInMore
import Derived.LoopNIn
import Derived.LoopIn
import Derived.Maps.AppendAt
namespace Go.Proofs.YtmifpfojhlmbkaaGreat
open Lib (hid)
set_option maxRecDepth 100000
set_option maxHeartbeats 16000000
open Go.RowKit
set_option linter.unusedVariables false
set_option linter.unusedSimpArgs false
theorem addE_is (L : List Ru) (r : Ru) : addEG L r = if decide (rightU r) = false then 1 else if (intoL L r.dst).isSome = true then 6 else if decide (ofL L r.dst ≠ []) = true then 10 else if (intoL L r.src).isSome = true then 10 else 0 := by
  unfold addEG
  by_cases h1 : rightU r <;> by_cases h2 : (intoL L r.dst).isSome = true <;> by_cases h3 : ofL L r.dst = [] <;> by_cases h4 : (intoL L r.src).isSome = true <;> simp [h1, h2, h3, h4]
theorem addU_no {L : List Ru} {r : Ru} (h : addEG L r ≠ 0) : addU L r = L := if_neg h
theorem addU_yes {L : List Ru} {r : Ru} (h : addEG L r = 0) : addU L r = insU r L := if_pos h
theorem gright_x (s d : Tx) (k n a : Int) (w : World) : Calls Tryz.prog 91 #[.agg #[.string (bs s), .string (bs d), .int .i64 k, .int .i64 n, .int .i64 a]] w fun e w' => e = .returned (.bool (decide (rightU ⟨s, d, k, n, a⟩))) ∧ Below w.heap.size w w' := gright_any ⟨s, d, k, n, a⟩ w
theorem gput_x (w : World) (x bi bf : Nat) (F : Nat → Prop) (L : List Ru) (s d : Tx) (k n a : Int) (h : GrAt w x bi bf F L) (hL : L.length ≤ 900) (hr : addEG L ⟨s, d, k, n, a⟩ = 0) :
    Calls Tryz.prog 165 #[.pointer (some ⟨x, 0, none⟩), .agg #[.string (bs s), .string (bs d), .int .i64 k, .int .i64 n, .int .i64 a]] w fun e w' => e = .returned (.tuple #[]) ∧ ∃ F', GrTurn w w' x bi bf F F' (insU ⟨s, d, k, n, a⟩ L) := gput_ok w x bi bf F L ⟨s, d, k, n, a⟩ h hL hr
def AddG (w : World) (x bi bf : Nat) (F : Nat → Prop) (L : List Ru) (r : Ru) (e : Ending) (w' : World) : Prop := e = .returned (.int .i64 (addEG L r)) ∧ ∃ F', GrTurn w w' x bi bf F F' (addU L r)
theorem gadd_ok (w : World) (x bi bf : Nat) (F : Nat → Prop) (L : List Ru) (r : Ru) (h : GrAt w x bi bf F L) (hL : L.length ≤ 900) :
    Calls Tryz.prog 93 #[.pointer (some ⟨x, 0, none⟩), ruV r] w (AddG w x bi bf F L r) := by
  obtain ⟨s, d, k, n, a⟩ := r
  unfold ruV
  show Calls Tryz.prog 93 #[.pointer (some ⟨x, 0, none⟩), .agg #[.string (bs s), .string (bs d), .int .i64 k, .int .i64 n, .int .i64 a]] w _
  have HE := hid (addE_is L ⟨s, d, k, n, a⟩)
  have B1 := (Below.refl w.heap.size w).alloc (Nat.le_refl _) (.cells #[.string (bs s), .string (bs d), .int .i64 k, .int .i64 n, .int .i64 a] 32)
  have X1 := BoxU.new 32 w ⟨s, d, k, n, a⟩
  have HC := hid (fun W (hW : GrCell W x bi bf) => gisNone_no W x bi bf hW)
  have HR := hid (fun W => gright_x s d k n a W)
  have HM := hid (fun W (h1 : GrCell W x bi bf) (h2 : IntoAt W bi (intoL L)) => isMade_ok W x bi bf (intoL L) d h1 h2)
  have HM2 := hid (fun W (h1 : GrCell W x bi bf) (h2 : IntoAt W bi (intoL L)) => isMade_ok W x bi bf (intoL L) s h1 h2)
  have HS := hid (fun W (h1 : GrCell W x bi bf) (h2 : FromAt W bf F (ofL L)) => isSource_ok W x bi bf F (ofL L) d h1 h2)
  have HP := hid (fun W (hW : GrAt W x bi bf F L) (h0 : addEG L ⟨s, d, k, n, a⟩ = 0) => gput_x W x bi bf F L s d k n a hW hL h0)
  have HG := hid h
  have G1 := hid (h.keep B1)
  simp only at HE
  generalize hb1 : decide (rightU ⟨s, d, k, n, a⟩) = b1 at *
  generalize hb2 : (intoL L d).isSome = b2 at *
  generalize hb3 : decide (ofL L d ≠ []) = b3 at *
  generalize hb4 : (intoL L s).isSome = b4 at *
  clear hb1 hb2 hb3 hb4 h hL
  go_enter Tryz.func93, Tryz.ntmps93
  go_wp2_with fail
  generalize hW1 : w.alloc (.cells #[.string (bs s), .string (bs d), .int .i64 k, .int .i64 n, .int .i64 a] 32) = W1 at *
  have HB1 := hid B1
  have HX1 := hid X1
  clear hW1 B1 X1
  refine (HC.out W1 G1.out.cell).mono ?_
  rintro e w' ⟨rfl, rfl⟩
  have x0 := HX1.out.x0
  have x1 := HX1.out.x1
  have x2 := HX1.out.x2
  have x3 := HX1.out.x3
  have x4 := HX1.out.x4
  simp only at x0 x1 x2 x3 x4
  generalize hB0 : w.heap.size = B0 at *
  go_wp2_with fail
  refine (HR.out W1).mono ?_
  rintro e W2 ⟨rfl, b2'⟩
  have HB2 := hid (HB1.out.trans (b2'.mono (by have := HB1.out.size; omega)))
  have G2 := hid (G1.out.keep b2')
  have HX2 := hid (HX1.out.keep b2')
  clear b2' HX1 G1 HB1 x0 x1 x2 x3 x4
  have x1 := HX2.out.x1
  simp only at x1
  cases b1
  · have E := hid (show addEG L ⟨s, d, k, n, a⟩ = 1 from HE.out)
    go_wp2
    go_ret
    unfold AddG; rw [E.out]; exact ⟨rfl, F, by rw [addU_no (by rw [E.out]; decide)]; exact ⟨G2.out, fun _ f => .inl f, .of (by rw [hB0]; exact HB2.out)⟩⟩
  go_wp2_with fail
  refine (HM.out W2 G2.out.cell G2.out.into).mono ?_
  rintro e W3 ⟨rfl, b3'⟩
  have HB3 := hid (HB2.out.trans (b3'.mono (by have := HB2.out.size; omega)))
  have G3 := hid (G2.out.keep b3')
  have HX3 := hid (HX2.out.keep b3')
  clear b3' HX2 G2 HB2 x1
  have x0 := HX3.out.x0
  have x1 := HX3.out.x1
  have x2 := HX3.out.x2
  have x3 := HX3.out.x3
  have x4 := HX3.out.x4
  simp only at x0 x1 x2 x3 x4
  cases b2
  case true =>
    have E := hid (show addEG L ⟨s, d, k, n, a⟩ = 6 from HE.out)
    go_wp2
    go_ret
    unfold AddG; rw [E.out]; exact ⟨rfl, F, by rw [addU_no (by rw [E.out]; decide)]; exact ⟨G3.out, fun _ f => .inl f, .of (by rw [hB0]; exact HB3.out)⟩⟩
  go_wp2_with fail
  refine (HS.out W3 G3.out.cell G3.out.from_).mono ?_
  rintro e w' ⟨rfl, rfl⟩
  cases b3
  case true =>
    have E := hid (show addEG L ⟨s, d, k, n, a⟩ = 10 from HE.out)
    go_wp2
    go_ret
    unfold AddG; rw [E.out]; exact ⟨rfl, F, by rw [addU_no (by rw [E.out]; decide)]; exact ⟨G3.out, fun _ f => .inl f, .of (by rw [hB0]; exact HB3.out)⟩⟩
  go_wp2_with fail
  refine (HM2.out W3 G3.out.cell G3.out.into).mono ?_
  rintro e W4 ⟨rfl, b4'⟩
  have HB4 := hid (HB3.out.trans (b4'.mono (by have := HB3.out.size; omega)))
  have G4 := hid (G3.out.keep b4')
  have HX4 := hid (HX3.out.keep b4')
  clear b4' HX3 G3 HB3 x0 x1 x2 x3 x4
  have x0 := HX4.out.x0
  have x1 := HX4.out.x1
  have x2 := HX4.out.x2
  have x3 := HX4.out.x3
  have x4 := HX4.out.x4
  simp only at x0 x1 x2 x3 x4
  cases b4
  case true =>
    have E := hid (show addEG L ⟨s, d, k, n, a⟩ = 10 from HE.out)
    go_wp2
    go_ret
    unfold AddG; rw [E.out]; exact ⟨rfl, F, by rw [addU_no (by rw [E.out]; decide)]; exact ⟨G4.out, fun _ f => .inl f, .of (by rw [hB0]; exact HB4.out)⟩⟩
  have E := hid (show addEG L ⟨s, d, k, n, a⟩ = 0 from HE.out)
  go_wp2_with fail
  refine (HP.out W4 G4.out E.out).mono ?_
  rintro e W5 ⟨rfl, F', T5⟩
  have HT := hid (T5.pre (by rw [hB0]; exact HB4.out))
  clear x0 x1 x2 x3 x4 T5
  go_wp2
  go_ret
  unfold AddG; rw [E.out]; exact ⟨rfl, F', by rw [addU_yes E.out]; exact HT.out⟩
open Go.RowKit Go.Shelf
attribute [local go_sem] Oper.semAt_some
theorem walks_of_others {W W' : World} (h : KeepsOthers W W') : KeepsWalks W W' := ⟨h.size, fun k o e hw => h.same k o e (Obj.not_cells_of_walk hw)⟩
theorem ownFrom_walks {β : Type} {B : Nat} {w : World} (hB : w.heap.size ≤ B) : OwnFrom B (fun (_ : β) W => KeepsWalks w W) :=
  fun _ W W' row hs hg hr => ⟨Nat.le_trans hs.size hg.size, fun k o hk ho => (hg.block k (Nat.lt_of_lt_of_le (heap_lt hk) hs.size) (fun e => by
    have := (hr k e.symm).1
    have := heap_lt hk
    omega)).trans (hs.same k o hk ho)⟩
theorem appendSeq_any (gf : Nat) (lb : Array Value) (eg : ∀ args w, (callFunc gf args).run Tryz.prog w = .ok (.enter gf args) w) (S : List Tx → Prop) (N base : Nat) (a : Option Addr) (n0 c : Nat) (l0 : List Tx) (w : World)
    (hseq : SeqStopsK Fence.wide 2 Tryz.prog gf lb (fun x : Tx => #[.string (bs x)]) KeepsWalks S (fun _ => True) N w) (hN : n0 + N ≤ 1000000) (hn0 : l0.length = n0) (hrow : TRow w base (.slice a n0 c) l0) (hbase : base ≤ w.heap.size) :
    Calls Tryz.prog 194 #[.slice a n0 c, .func (.func gf) #[] lb] w fun e w' => ∃ v ss, e = .returned v ∧ S ss ∧ TRow w' base v (l0 ++ ss) ∧ Below base w w' ∧ KeepsWalks w w' := by
  obtain ⟨i0, hi, hz0, hz1, hz2⟩ := info_parts info_tx
  have hrow' : w.ownsRow base 9 1 (.slice a n0 c) n0 (l0.map tc) := by have h := hrow; unfold TRow at h; rw [hn0] at h; exact h
  have HN0 := hid hn0
  clear hrow hn0
  refine (callsIn_wide (n := 3)).1 ?_
  refine callsIn_of_wp_marks Tryz.func194 rfl trivial ?_ rfl
  simp only [Tryz.ntmps194, List.size_toArray, List.length_cons, List.length_nil, Nat.reduceAdd, Nat.reduceSub, Array.replicate_succ, Array.replicate_zero, List.push_toArray, List.append_toArray, List.nil_append, List.cons_append]
  gi_wp2
  have bO := Boxed.new w 49 (.slice a n0 c)
  have hB0 : Below w.heap.size w (w.alloc (.cells #[.slice a n0 c] 49)) := (Below.refl _ w).alloc (Nat.le_refl _) _
  refine wpIn_rangeFunc_ownF rfl (by omega) (gf := gf) (lb := lb) rfl trivial eg hseq walksK_t walksK_b hB0 (fun _ => rfl)
    (fun pre W => (∃ v, Boxed W w.heap.size 49 v ∧ W.ownsRow base 9 1 v (n0 + pre.length) ((l0 ++ pre).map tc) ∧ True) ∧ (Below base w W ∧ KeepsWalks w W))
    (fun _ _ _ => False)
    (OwnFrom.and (Own.from (holdsRow_own base w.heap.size 49 9 1 (fun pre => n0 + pre.length) (fun pre => (l0 ++ pre).map tc) (fun _ _ => True)) _) (OwnFrom.and (ownFrom_below hbase (by simp; omega)) (ownFrom_walks (by simp))))
    (fun _ _ _ _ _ hs _ _ => hs)
    ⟨⟨_, bO, by rw [List.append_nil]; exact World.ownsRow.alloc hrow' _, trivial⟩, hB0.mono hbase, KeepsWalks.alloc w _⟩
    (fun x => { tmps := #[.slice a n0 c, .func (.func gf) #[] lb, .pointer (some ⟨w.heap.size, 0, none⟩), undef, .slice none 0 0, .string (bs x), .func (.func gf) #[] lb, .string (bs x), undef, undef, undef, undef, undef], defers := [] }) ?assign ?body ?done ?stop
  case assign =>
    intro l x W K hK
    gi_wp2
    exact hK
  case body =>
    rintro l pre x W ⟨⟨v, hv, hrow, _⟩, hB, hkw⟩ hlt
    have hc := hv.cell
    have hll : n0 + pre.length < 1000000 := by omega
    have hsz := hB.size
    gi_wp2_with (gi_at_builtin; refine wpListIn_append_own _ rfl _ _ 49 rfl base 9 i0 _ 1 16 Tryz.underlying49 hi hz0 hz1 hz2 rfl (by decide) _ _ _ rfl (hrow.alloc _) ⟨W.heap.size, 0, none⟩ 1 1 [tc x] rfl rfl (cell_one_new _ _ _) (by simp [Value.oneCell', tc]) (by unfold maxLen; omega) (by omega) (by simp; omega) ?_; intro v' w1 hown' hgrow _; obtain ⟨g', cap', rfl⟩ := ownsRow_succ hown'; obtain ⟨hv1, hv2, hr2, hk2, hb2⟩ := hv.appended (by decide) hrow (by omega) hbase hown' hgrow; have hc1 := hv1.cell; have hf1 := hv1.frozen)
    refine ⟨hk2, walks_of_others hk2, ⟨_, hv2, ?_, trivial⟩, hB.trans hb2, hkw.trans (walks_of_others hk2)⟩
    have e : l0 ++ (pre ++ [x]) = (l0 ++ pre) ++ [x] := (List.append_assoc ..).symm
    rw [e, List.map_append, List.length_append]
    exact hr2
  case done =>
    rintro D ss W hD hS ⟨⟨v, hv, hrow, _⟩, hB, hkw⟩ hK
    have hc := hv.cell
    gi_wp2
    refine ⟨by simp, .inl ⟨_, _, rfl, run_takeDeferred hK, ?_⟩⟩
    refine ⟨_, results_tmp rfl _ _ _, v, ss, rfl, hS, by unfold TRow; rw [List.length_append, HN0.out]; exact ownsRow_putObj hrow _ hK rfl, hB.trans (belowK_b (w := w) hbase W D _ _ (by simp at hD; omega) hK rfl rfl), hkw.trans (KeepsWalks.putObj _ hK rfl)⟩
  case stop =>
    rintro D c pre W _ _ h _
    exact h.elim
theorem collect_any (gf : Nat) (lb : Array Value) (eg : ∀ args w, (callFunc gf args).run Tryz.prog w = .ok (.enter gf args) w) (S : List Tx → Prop) (N : Nat) (w : World)
    (hseq : SeqStopsK Fence.wide 2 Tryz.prog gf lb (fun x : Tx => #[.string (bs x)]) KeepsWalks S (fun _ => True) N w) (hN : N ≤ 1000000) :
    Calls Tryz.prog 116 #[.func (.func gf) #[] lb] w fun e w' => ∃ a c ss, e = .returned (.slice a ss.length c) ∧ S ss ∧ TxAt w' a ss.length c ss ∧ Below w.heap.size w w' := by
  have HA := hid (appendSeq_any gf lb eg S N w.heap.size none 0 0 [] w hseq (by omega) rfl (TRow.nil _ _) (Nat.le_refl _))
  clear hseq
  go_enter Tryz.func116, Tryz.ntmps116
  go_wp2_with fail
  refine HA.out.mono ?_
  rintro e w1 ⟨v, ss, rfl, hS, R1, b1, _⟩
  rw [List.nil_append] at R1
  obtain ⟨a1, c1, rfl, t1⟩ := R1.shape
  have T1 := hid t1
  have B1 := hid b1
  have HS := hid hS
  clear R1 t1 b1 hS HA
  generalize hq : ss.length = q at *
  have HQ := hid hq
  clear hq
  go_wp2
  go_ret
  exact ⟨a1, c1, ss, by rw [HQ.out]; rfl, HS.out, by rw [HQ.out]; exact T1.out, B1.out⟩
attribute [local go_sem] Oper.semAt_some
theorem keysR_in (m : Nat) (hn : 1 ≤ m) (l Bm b : Nat) (L : List (Tx × Value)) (J Jx : List Tx → World → Prop)
    (hY : ∀ pre x W, J pre W → pre.length < L.length → YieldAt Fence.wide (m - 1) Tryz.prog l #[.string (bs x)] W fun e W' =>
      (e = .returned (.bool true) ∧ J (pre ++ [x]) W' ∧ KeepsWalks W W') ∨ (e = .returned (.bool false) ∧ Jx (pre ++ [x]) W'))
    (W : World) (hJ : AbidesFrom W.heap.size J) (hm : W.cell? ⟨Bm, 0, none⟩ = some (.map (some b))) (hL : MapAt W b L) (h0 : J [] W) :
    CallsIn Fence.wide m Tryz.prog 195 #[.func (.yield l) #[] #[], .pointer (some ⟨Bm, 0, none⟩)] W fun e W' => (∃ v, e = .returned v) ∧
      ((∃ ss : List Tx, ss.Perm (keysL L) ∧ J ss W') ∨ (∃ pre : List Tx, True ∧ Jx pre W')) := by
  refine callsIn_of_wp Tryz.func195 rfl trivial ?_ rfl
  simp only [Tryz.ntmps195, List.size_toArray, List.length_cons, List.length_nil, Nat.reduceAdd, Nat.reduceSub, Array.replicate_succ, Array.replicate_zero, List.push_toArray, List.append_toArray, List.nil_append, List.cons_append]
  gi_wp2_with (first
    | (gi_at_range; refine wpListIn_range_m _ rfl _ 174 rfl 9 38 Tryz.underlying174 b L rfl hL ?_; intro w0 hr0 hg0 hs0)
    | gi_in)
  go_frame
  gi_loopw [3] (fun _ wr => ∃ (left : List (Tx × Value)) (ss : List Tx), RngAt wr b W.heap.size L left ∧ (ss ++ keysL left).Perm (keysL L) ∧ J ss wr) (fun _ wr => wr.rangeLeft b W.heap.size)
  case atStart =>
    exact ⟨L, [], hr0, List.Perm.refl _, hJ [] W w0 none h0 hg0 (fun r e => by cases e)⟩
  case round =>
    obtain ⟨left, ss, hrg, hC, hJs⟩ := hrel
    have hlen : ss.length + left.length = L.length := by have := hC.length_eq; simp [keysL] at this; exact this
    gi_wp2_with (first
      | (gi_at_next; refine wpListIn_next_m _ rfl _ rfl b W.heap.size L left rfl hrg ?_ ?_)
      | gi_in)
    · intro h0
      subst h0
      gi_wp2
      go_end0
      exact ⟨⟨_, rfl⟩, .inl ⟨ss, by simpa [keysL] using hC, hJs⟩⟩
    · intro k v left' w2 hp hrg2 hg2 hs2 hen
      have hJ2 : J ss w2 := hJ ss wr w2 (some W.heap.size) hJs hg2 (fun r e => by cases e; exact ⟨Nat.le_refl _, hrg.walk⟩)
      have hll : left.length = left'.length + 1 := by rw [hp.length_eq]; rfl
      have hC2 : (ss ++ [k] ++ keysL left').Perm (keysL L) := by
        have h1 : (keysL left).Perm (k :: keysL left') := hp.map Prod.fst
        rw [List.append_assoc]
        exact (h1.symm.append_left ss).trans hC
      obtain ⟨fn, tmps, assign, body, hy, hR⟩ := hY ss k w2 hJ2 (by omega)
      clear hs2 hp
      gi_wp2
      refine hR.mono ?_
      rintro e W3 (⟨rfl, hJ3, hk3⟩ | ⟨rfl, hJx3⟩)
      · gi_wp2
        have hrg3 := hrg2.of_walks hk3
        go_roundw
        case rel => exact ⟨left', ss ++ [k], hrg3, hC2, hJ3⟩
        case measure => rw [hrg3.left_eq, hrg.left_eq]; omega
      · gi_wp2
        refine bodyPost_ret (results_none rfl _ _ _) rfl ?_
        exact ⟨⟨_, rfl⟩, .inr ⟨ss ++ [k], trivial, hJx3⟩⟩
theorem keysR_stops (m : Nat) (hn : 1 ≤ m) (Bm b : Nat) (L : List (Tx × Value)) (w : World) (hBm : Bm < w.heap.size) (hm : w.cell? ⟨Bm, 0, none⟩ = some (.map (some b))) (hL : MapAt w b L) :
    SeqStopsK Fence.wide m Tryz.prog 195 #[.pointer (some ⟨Bm, 0, none⟩)] (fun x : Tx => #[.string (bs x)]) KeepsWalks (fun ss => ss.Perm (keysL L)) (fun _ => True) L.length w := fun l J Jx W hW hJ _ hY h0 =>
  keysR_in m hn l Bm b L J Jx hY W hJ ((hW.cell (p := ⟨Bm, 0, none⟩) hBm).trans hm) (hL.keep hW) h0
theorem keysR_call (mb : Option Nat) (w : World) :
    Calls Tryz.prog 117 #[.map mb] w fun e w' => e = .returned (.func (.func 195) #[] #[.pointer (some ⟨w.heap.size, 0, none⟩)]) ∧ w' = w.alloc (.cells #[.map mb] 174) := by
  go_enter Tryz.func117, Tryz.ntmps117
  go_wp2
  go_ret
  exact ⟨rfl, rfl⟩
open Go.RowKit Go.Sort
theorem le_ne_lt {x y : Tx} (h : x ≤ y) (k : x ≠ y) : x < y := by
  rcases lt_3 x y with h1 | h1 | h1
  · exact h1
  · exact absurd h1 k
  · exact absurd h1 (List.not_lt.2 h)
theorem compact_is {z : List Tx} (h : z.Pairwise (· ≤ ·)) : Lib.compact z = canon z := by
  have hd : ∀ i, i < z.length → (z.toArray)[i]! = z.getD i [] := fun i hi => by
    rw [getD_get hi]; simp [getElem!_pos, hi]
  refine canon_eq ?_ (fun x => ?_)
  · unfold Lib.compact Lib.compactUpTo SS
    rw [List.pairwise_map]
    refine List.Pairwise.imp_of_mem (R := (· < ·)) (fun {i j} hi hj hij => ?_) (List.Pairwise.filter _ List.pairwise_lt_range)
    obtain ⟨hi1, _⟩ := List.mem_filter.1 hi
    obtain ⟨hj1, hj2⟩ := List.mem_filter.1 hj
    have hi3 := List.mem_range.1 hi1
    have hj3 := List.mem_range.1 hj1
    have hle : ∀ a b, a < b → b < z.length → z.getD a [] ≤ z.getD b [] := fun a b hab hb => by
      rw [getD_get (by omega), getD_get hb]; exact List.pairwise_iff_getElem.1 h a b (by omega) hb hab
    have hk : z.getD j [] ≠ z.getD (j - 1) [] := by
      simp only [Lib.keeps] at hj2
      rw [hd j hj3, hd (j - 1) (by omega)] at hj2
      intro e
      rw [e] at hj2
      simp at hj2
      omega
    rw [hd i hi3, hd j hj3]
    have h1 : z.getD (j - 1) [] < z.getD j [] := le_ne_lt (hle (j - 1) j (by omega) hj3) (fun e => hk e.symm)
    by_cases e : i = j - 1
    · rw [e]; exact h1
    · exact List.lt_of_le_of_lt (hle i (j - 1) (by omega) (by omega)) h1
  · unfold Lib.compact Lib.compactUpTo
    rw [List.mem_map]
    constructor
    · rintro ⟨i, hi, rfl⟩
      have hi3 := List.mem_range.1 (List.mem_filter.1 hi).1
      rw [hd i hi3, getD_get hi3]
      exact List.getElem_mem hi3
    · intro hx
      have hex : ∃ i, i < z.length ∧ z.getD i [] = x := by
        obtain ⟨i, hi, e⟩ := List.getElem_of_mem hx
        exact ⟨i, hi, by rw [getD_get hi]; exact e⟩
      have key : ∀ n, (∃ i, i ≤ n ∧ i < z.length ∧ z.getD i [] = x) → ∃ i, i < z.length ∧ z.getD i [] = x ∧ ∀ j, j < i → z.getD j [] ≠ x := by
        intro n
        induction n with
        | zero =>
          rintro ⟨i, h1, h2, h3⟩
          exact ⟨i, h2, h3, fun j hj => by omega⟩
        | succ n ih =>
          intro hh
          by_cases hn : ∃ i, i ≤ n ∧ i < z.length ∧ z.getD i [] = x
          · exact ih hn
          · obtain ⟨i, h1, h2, h3⟩ := hh
            exact ⟨i, h2, h3, fun j hj e => hn ⟨j, by omega, by omega, e⟩⟩
      obtain ⟨i0, q1, q2⟩ := hex
      obtain ⟨i, h1, h2, h3⟩ := key i0 ⟨i0, Nat.le_refl _, q1, q2⟩
      refine ⟨i, List.mem_filter.2 ⟨List.mem_range.2 h1, ?_⟩, by rw [hd i h1]; exact h2⟩
      simp only [Lib.keeps]
      by_cases hi0 : i = 0
      · simp [hi0]
      · refine decide_eq_true (.inr ?_)
        rw [hd i h1, hd (i - 1) (by omega), h2]
        exact fun e => h3 (i - 1) (by omega) e.symm
theorem sort_compact (l : List Tx) : Lib.compact (l.mergeSort fun x y => decide (x ≤ y)) = canon l := by
  rw [compact_is]
  · exact canon_same (fun x => (List.mergeSort_perm l _).mem_iff)
  · have := List.pairwise_mergeSort (le := fun x y : Tx => decide (x ≤ y)) (fun a b c h1 h2 => by simp only [decide_eq_true_eq] at *; exact List.le_trans h1 h2) (fun a b => by simpa using List.le_total a b) l
    exact this.imp (fun h => by simpa using h)
def MadeE (w : World) (l : List Tx) (e : Ending) (w' : World) : Prop := ∃ v, e = .returned v ∧ TRow w' w.heap.size v l ∧ Below w.heap.size w w'
theorem MadeE.to {w w' : World} {l : List Tx} {e : Ending} (h : MadeE w l e w') : ∃ a c, e = .returned (.slice a l.length c) ∧ TxAt w' a l.length c l ∧ Below w.heap.size w w' := by
  obtain ⟨v, rfl, h1, h2⟩ := h
  obtain ⟨a, c, rfl, h3⟩ := h1.shape
  exact ⟨a, c, rfl, h3, h2⟩
theorem of_left {w w1 : World} {g cap n nn q : Nat} {os : Array Obj} {ss : List Tx} (hown : w1.ownsRow w.heap.size 9 1 (.slice (some ⟨g, 0, none⟩) n cap) n (ss.map encStr)) (hbel : Below w.heap.size w w1) (hbg : w.heap.size ≤ g) (hlen : ss.length = n) :
    MadeE w (canon ss) (.returned (.slice (some ⟨g, 0, none⟩) (Lib.compact (ss.mergeSort fun x y => decide (x ≤ y))).length cap))
      (putRow encStr (Sort.ahead (grow (putRow encStr (Sort.ahead w1 nn) g 0 (ss.mergeSort fun x y => decide (x ≤ y)).toArray) os) q) g 0 (Lib.compact (ss.mergeSort fun x y => decide (x ≤ y)) ++ List.replicate (n - (Lib.compact (ss.mergeSort fun x y => decide (x ≤ y))).length) []).toArray) := by
  have hl2 : (ss.mergeSort fun x y => decide (x ≤ y)).length = ss.length := List.length_mergeSort ss
  have hle := Lib.compact_length_le (ss.mergeSort fun x y => decide (x ≤ y))
  subst hlen
  rcases hown.2 with ⟨h0, _⟩ | ⟨g', cap', cur, hv, hbase, hb, h1, h2, h3, h4⟩
  · cases h0
  cases hv
  have hs := ownsRow_sorted (n := nn) (os := os) (ts := ss.mergeSort fun x y => decide (x ≤ y)) hl2 hbase hb h1 h2 h3
  have hc := Lib.ownsRow_putRow (q := q) (k := (Lib.compact (ss.mergeSort fun x y => decide (x ≤ y))).length) (ys := Lib.compact (ss.mergeSort fun x y => decide (x ≤ y)) ++ List.replicate (ss.length - (Lib.compact (ss.mergeSort fun x y => decide (x ≤ y))).length) []) hs (by simp; omega) (by omega)
  rw [List.take_left] at hc
  refine ⟨_, rfl, ?_, Lib.below_putRow (hbel.grown (grownBy_sorted _) hbel.size (fun j hj => by cases hj; exact hbase)) hbg⟩
  rw [sort_compact] at *
  exact TRow.of hc
theorem of_tail (n : Nat) (arg : Value) (ss : List Tx) (w : World) (hn : n ≤ 1048576)
    (hclone : Calls Tryz.prog 191 #[arg] w fun e w' => ∃ v', e = .returned v' ∧ w'.ownsRow w.heap.size 9 1 v' n (ss.map encStr) ∧ v' ≠ .slice none 0 0 ∧ Below w.heap.size w w') :
    Calls Tryz.prog 115 #[arg] w (MadeE w (canon ss)) := by
  go_enter Tryz.func115, Tryz.ntmps115
  go_wp2_with fail
  refine hclone.mono ?_
  rintro e w1 ⟨v1, rfl, hown, hnn, hbel⟩
  obtain ⟨g, cap, rfl, hbg, hgl, hncap, hcm, hlen, hH⟩ := Lib.holds_of_ownsRow hown hnn
  have hsort := sh_slices_Sort_string g 0 cap ss w1 hH hgl (by omega)
  rw [hlen] at hsort
  have HSo := hid hsort
  have X := hid (show w1.ownsRow w.heap.size 9 1 (.slice (some ⟨g, 0, none⟩) n cap) n (ss.map encStr) ∧ Below w.heap.size w w1 ∧ w.heap.size ≤ g ∧ g < w1.heap.size ∧ n ≤ cap ∧ cap ≤ maxLen ∧ ss.length = n ∧ Holds encStr w1 g 0 ss.toArray from ⟨hown, hbel, hbg, hgl, hncap, hcm, hlen, hH⟩)
  clear hown hbel hH hnn hclone hsort hlen
  go_wp2_with fail
  refine HSo.out.mono ?_
  rintro e w2 ⟨rfl, nn, os, rfl⟩
  have hl2 : (ss.mergeSort fun x y => decide (x ≤ y)).length = n := by rw [List.length_mergeSort]; exact X.out.2.2.2.2.2.2.1
  have hH2 : Holds encStr (grow (putRow encStr (Sort.ahead w1 nn) g 0 (ss.mergeSort fun x y => decide (x ≤ y)).toArray) os) g 0 (ss.mergeSort fun x y => decide (x ≤ y)).toArray :=
    holds_grow encStr _ os g 0 _ (by simpa [putRow, mapBlock, Sort.ahead] using X.out.2.2.2.1) (holds_putRow encStr _ g 0 _ _ (holds_ahead encStr w1 nn g 0 _ X.out.2.2.2.2.2.2.2) (by simp))
  have hcomp := sh_slices_Compact_string g 0 cap (ss.mergeSort fun x y => decide (x ≤ y)) _ hH2 (by omega) (by have := X.out.2.2.2.2.1; omega)
  rw [hl2] at hcomp
  have HC := hid hcomp
  have HE := hid (fun q => of_left (nn := nn) (q := q) (os := os) X.out.1 X.out.2.1 X.out.2.2.1 X.out.2.2.2.2.2.2.1)
  clear hH2 hcomp hl2
  generalize grow (putRow encStr (Sort.ahead w1 nn) g 0 (ss.mergeSort fun x y => decide (x ≤ y)).toArray) os = W2 at *
  generalize Lib.compact (ss.mergeSort fun x y => decide (x ≤ y)) = R at *
  go_wp2_with fail
  refine HC.out.mono ?_
  rintro e w3 ⟨rfl, q, rfl⟩
  have HF := hid (HE.out q)
  generalize putRow encStr (Sort.ahead W2 q) g 0 (R ++ List.replicate (n - R.length) []).toArray = W3 at *
  go_wp2
  go_ret
  exact HF.out
theorem of_nil (n c : Nat) (w : World) : Calls Tryz.prog 115 #[.slice none n c] w (MadeE w []) := by
  go_enter Tryz.func115, Tryz.ntmps115
  go_wp2_with fail
  refine (sh_slices_Clone_string_nil n c _).mono ?_
  rintro e w' ⟨rfl, rfl⟩
  go_wp2_with fail
  refine (sh_slices_Sort_string_none none 0 _).mono ?_
  rintro e w' ⟨rfl, rfl⟩
  go_wp2_with fail
  refine (sh_slices_Compact_string_empty none 0 _).mono ?_
  rintro e w' ⟨rfl, rfl⟩
  go_wp2
  go_ret
  exact ⟨_, rfl, TRow.nil _ _, Below.refl _ _⟩
theorem of_any (a : Option Addr) (n c : Nat) (l : List Tx) (w : World) (h : TxAt w a n c l) (hn : n ≤ 1048576) :
    Calls Tryz.prog 115 #[.slice a n c] w (MadeE w (canon l)) := by
  obtain ⟨h1, h2, h3, h4⟩ := h
  cases a with
  | none =>
    have h0 : n = 0 := by
      rcases h4 with e | ⟨b, off, e, _⟩
      · exact e
      · cases e
    subst h0
    have e0 : l = [] := List.eq_nil_of_length_eq_zero h1
    subst e0
    exact of_nil 0 c w
  | some ad =>
    rcases h4 with e | ⟨b, off, e, hlt, hc⟩
    · subst e
      have e0 : l = [] := List.eq_nil_of_length_eq_zero h1
      subst e0
      exact of_tail 0 _ [] w (by omega) (sh_slices_Clone_string_zero ad c w)
    · simp only [Option.some.injEq] at e
      subst e
      refine of_tail n _ l w hn ((sh_slices_Clone_string b off n c (l.map bs) w (by simp; omega) (by omega) (fun j hj => ?_)).mono ?_)
      · simp only [List.length_map] at hj
        rw [hc j (by omega), getD_get hj, List.getD_eq_getElem?_getD, List.getElem?_map, List.getElem?_eq_getElem hj]; rfl
      · rintro e w' ⟨v', he, hown, hnn, hbel⟩
        refine ⟨v', he, ?_, hnn, hbel⟩
        rw [List.take_of_length_le (by simp; omega)] at hown
        rw [show l.map encStr = (l.map bs).map Value.string from by rw [List.map_map]; rfl]
        exact hown
theorem enters_keysR : ∀ args w, (callFunc 195 args).run Tryz.prog w = .ok (.enter 195 args) w := enters_of Tryz.func195 (by kernel_rfl) rfl
theorem flat_take {S : List Tx} {O : Tx → List Ru} {j : Nat} (h : j < S.length) : (S.take (j + 1)).flatMap O = (S.take j).flatMap O ++ O (S.getD j []) := by
  rw [List.take_succ_eq_append_getElem h, List.flatMap_append, getD_get h]; simp
theorem flat_len {S : List Tx} {O : Tx → List Ru} (j : Nat) : ((S.take j).flatMap O).length + ((S.drop j).flatMap O).length = (S.flatMap O).length := by
  rw [← List.length_append, ← List.flatMap_append, List.take_append_drop]
theorem gall_ok (w : World) (x bi bf : Nat) (F : Nat → Prop) (L : List Ru) (h : GrAt w x bi bf F L) (hL : L.length ≤ 1000) :
    Calls Tryz.prog 54 #[.pointer (some ⟨x, 0, none⟩)] w fun e w' => ∃ v, e = .returned v ∧ URow 32 w' w.heap.size v L ∧ Below w.heap.size w w' := by
  have HC := hid h.cell
  have c1 := h.cell.c1
  obtain ⟨LF, K, f1, f2, f3⟩ := h.from_
  have hLF := h.full.len f1
  have B1 := (Below.refl w.heap.size w).alloc (Nat.le_refl _) (.cells #[mp bf] 174)
  have HS := hid (keysR_stops 2 (by omega) w.heap.size bf LF (w.alloc (.cells #[mp bf] 174)) (by simp) (by rw [cell_of (heap_new w _)]; rfl) (f1.keep B1))
  have HB := hid B1
  have HK := hid (fun (ss : List Tx) (hp : ss.Perm (keysL LF)) => show ss.length ≤ 1000 ∧ (canon ss).flatMap (ofL L) = L from by
    refine ⟨by rw [hp.length_eq]; unfold keysL; rw [List.length_map]; omega, all_of h.good (canon_ss ss) (fun s hs => ?_)⟩
    rw [mem_canon, hp.mem_iff]
    refine Classical.byContradiction fun hk => hs (f3.miss s ?_)
    rw [← f2, look_none]; exact hk)
  have HF1 := hid f1
  have HF2 := hid f2
  have HF3 := hid f3
  have hTL : LF.length ≤ 1000000 := by omega
  clear h f1 f2 f3 B1
  go_enter Tryz.func54, Tryz.ntmps54
  go_wp2_with fail
  refine (gisNone_no w x bi bf HC.out).mono ?_
  rintro e w' ⟨rfl, rfl⟩
  go_wp2_with fail
  refine (keysR_call _ _).mono ?_
  rintro e w1 ⟨rfl, rfl⟩
  go_wp2_with fail
  refine (collect_any _ _ enters_keysR _ _ _ HS.out hTL).mono ?_
  rintro e w2 ⟨a, c, ss, rfl, hs, t2, b2⟩
  obtain ⟨hsl, hflat⟩ := HK.out ss hs
  have HT := hid t2
  have B2 := hid (HB.out.trans (b2.mono HB.out.size))
  clear hs t2 b2 HS HK HB c1
  generalize hq : ss.length = q at *
  go_wp2_with fail
  refine (of_any a q c ss w2 HT.out (by omega)).mono ?_
  intro e w3 hm
  obtain ⟨a3, c3, rfl, t3, b3⟩ := hm.to
  have hcl := canon_len ss
  generalize canon ss = S at *
  have HT3 := hid t3
  have B3 := hid (B2.out.trans (b3.mono B2.out.size))
  have HFL := hid hflat
  clear hm t3 b3 HT B2 hflat
  obtain ⟨n, hn⟩ : ∃ n, S.length = n := ⟨_, rfl⟩
  have HN := hid hn
  rw [hn] at HT3 hcl ⊢
  clear hn
  go_wp2
  go_loopw [3, 16] (fun o i wr => ∃ j : Nat, j ≤ n ∧ i = .int .i64 (j : Int) ∧ Hid (URow 32 wr w3.heap.size o ((S.take j).flatMap (ofL L))) ∧ Hid (Below w3.heap.size w3 wr)) (fun _ i _ => n - (intOf i).toNat)
  case atStart => exact ⟨0, Nat.zero_le _, rfl, hid (by simpa using URow.nil 32 w3 w3.heap.size), hid (Below.refl _ _)⟩
  case round =>
    obtain ⟨j, hj, rfl, R, B⟩ := hrel
    have HBw := hid (B3.out.trans (B.out.mono B3.out.size))
    by_cases hjn : j < n
    · have hjz : (j : Int) < (n : Int) := by omega
      have hj0 : (0 : Int) ≤ (j : Int) := by omega
      obtain ⟨b, off, e1, hb, x0⟩ := (HT3.out.keep B.out).at_ j hjn
      subst e1
      have HS := hid (flat_take (O := ofL L) (S := S) (j := j) (by rw [HN.out]; exact hjn))
      have hle : ((S.take j).flatMap (ofL L)).length + (ofL L (S.getD j [])).length ≤ 1000 := by
        have h1 := flat_len (S := S) (O := ofL L) (j + 1)
        rw [HS.out, List.length_append, HFL.out] at h1
        omega
      obtain ⟨s, hs⟩ : ∃ s, S.getD j [] = s := ⟨_, rfl⟩
      rw [hs] at x0 HS hle
      clear hs
      obtain ⟨a1, cap, e0, hr0, _⟩ := (HF3.out.row s).shape
      have hl : (look LF s).getD (.slice none 0 0) = .slice a1 (ofL L s).length cap := by rw [HF2.out, ← e0]; rfl
      have R0 := hid (hr0.keep HBw.out)
      have M0 := hid (HF1.out.keep HBw.out)
      have c1 := (HC.out.keep HBw.out).c1
      have hsz := B.out.size
      clear e0 hr0
      go_wp2_with (first
        | (at_lookup; refine wpList_lookup_m _ rfl _ _ 174 rfl 9 38 Tryz.underlying174 Tryz.underlying9 _ (Tryz.zeroValue38 _) bf _ rfl M0.out s _ rfl rfl _ hl ?_)
        | (at_builtin; refine wpList_append_gu rfl _ _ rfl w3.heap.size _ ((S.take j).flatMap (ofL L)) rfl R.out _ _ cap (ofL L s) rfl R0.out (by omega) hsz ?_; intro v2 w4 R4 g4))
      have R5 := hid (show URow 32 w4 w3.heap.size v2 ((S.take (j + 1)).flatMap (ofL L)) from by rw [HS.out]; exact R4)
      have B5 := hid (URow.bel B.out B.out.size R.out (Nat.le_refl _) g4)
      clear R4 g4 R0 M0 c1 x0 HBw
      go_wp2
      go_roundw
      case rel => exact ⟨j + 1, by omega, by go_num, R5, B5⟩
      case measure => simp [intOf]; omega
    · have hjz : ¬ (j : Int) < (n : Int) := by omega
      obtain rfl : j = n := by omega
      rw [show S.take j = S from List.take_of_length_le (by rw [HN.out]; exact Nat.le_refl _), HFL.out] at R
      go_wp2
      go_ret
      exact ⟨_, rfl, R.out.mono B3.out.size, HBw.out⟩
end Go.Proofs.YtmifpfojhlmbkaaGreat
