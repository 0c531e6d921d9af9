/-
  Contracts.
-/
import Derived.Test.YtmifpfojhlmbkaaGreatJ19
import Derived.Test.YtmifpfojhlmbkaaGreatJ23
import Derived.Test.YtmifpfojhlmbkaaGreatJ26
import Derived.Test.YtmifpfojhlmbkaaGreatJ30
import Derived.Test.YtmifpfojhlmbkaaGreatJ32
import Derived.Test.YtmifpfojhlmbkaaGreatJ33
import Derived.Test.YtmifpfojhlmbkaaGreatJ36
import Derived.Test.YtmifpfojhlmbkaaGreatJ37
import Derived.Test.YtmifpfojhlmbkaaGreatJ39
import Derived.Test.YtmifpfojhlmbkaaGreatJ44
import Derived.Deep.RegionHeld3
import Derived.RangeFuncNested
import Derived.RangeFuncBound
import Derived.RangeFuncCalls
import Derived.RangeFuncLeaves
import Derived.RangeFuncBox
import Derived.Shelf.Abstract
import Derived.Shelf.RegionOpen
import Derived.WalkKit
import Derived.OwnWalkIn
import Derived.TacticsInMore
import Derived.LoopNIn
import Derived.LoopIn
import Derived.Maps.AppendAt
import Derived.Laws.IdiomRangeMap
namespace Go.Proofs.YtmifpfojhlmbkaaGreat
set_option maxRecDepth 100000
set_option maxHeartbeats 16000000
open Go.RowKit
set_option linter.unusedVariables false
set_option linter.unusedSimpArgs false
structure HOwn (base : Nat) (w0 w : World) (x : Nat) (m : Mem) (P : Spc) : Prop where
  sp : SpAt w x m P
  xb : base ≤ x
  own : ∀ i, Own m P.E i → base ≤ i
  bel : Below base w0 w
  sz : base ≤ w.heap.size
theorem HOwn.keep {base : Nat} {w0 w w' : World} {x : Nat} {m : Mem} {P : Spc} (h : HOwn base w0 w x m P) (b : Below w.heap.size w w') : HOwn base w0 w' x m P :=
  ⟨h.sp.keep b, h.xb, h.own, h.bel.trans (b.mono h.sz), Nat.le_trans h.sz b.size⟩
theorem HOwn.turn {base : Nat} {w0 w w' : World} {x : Nat} {m m' : Mem} {P P' : Spc} (h : HOwn base w0 w x m P) (t : SpTurn w w' x m m' P.E P') : HOwn base w0 w' x m' P' :=
  ⟨t.sp, h.xb, fun i f => (t.ext i f).elim (h.own i) (fun k => Nat.le_trans h.sz k), t.ts.tu.below h.bel h.sz (fun i hi f => by have := h.own i f; omega), Nat.le_trans h.sz t.ts.size⟩
theorem HOwn.new {base : Nat} {w0 w w' : World} {x : Nat} {m : Mem} {P : Spc} (b : Below base w0 w) (hs : base ≤ w.heap.size) (g : SpAt w' x m P) (b' : Below w.heap.size w w') (hx : w.heap.size ≤ x) (hF : ∀ i, Own m P.E i → w.heap.size ≤ i) : HOwn base w0 w' x m P :=
  ⟨g, Nat.le_trans hs hx, fun i f => Nat.le_trans hs (hF i f), b.trans (b'.mono hs), Nat.le_trans hs b'.size⟩
theorem HOwn.ts {base : Nat} {w0 w w' : World} {x : Nat} {m : Mem} {P : Spc} {G : Nat → Prop} (h : HOwn base w0 w x m P) (t : Ts G w w') (hG : ∀ i, G i → ¬ Own m P.E i) (hb : ∀ i, G i → base ≤ i) : HOwn base w0 w' x m P :=
  ⟨h.sp.ts t hG, h.xb, h.own, t.tu.below h.bel h.sz (fun i hi f => by have := hb i f; omega), Nat.le_trans h.sz t.size⟩
theorem BoxN.ts {F : Nat → Prop} {w w' : World} {B : Nat} {sz ret pol : Int} {v : Value} (h : BoxN w B sz ret pol v) (t : Ts F w w') : BoxN w' B sz ret pol v := t.cells _ _ _ _ (by decide) (by decide) h
def LRw (w : World) (b : Nat) (l : List Lb) : Prop := w.heap[b]? = some (.cells (lbCells l).toArray 100 (0, 0))
theorem LRw.ts {F : Nat → Prop} {w w' : World} {b : Nat} {l : List Lb} (h : LRw w b l) (t : Ts F w w') : LRw w' b l := t.cells _ _ _ _ (by decide) (by decide) h
theorem LRw.one (w : World) (x : Lb) : LRw (w.alloc (.cells #[.string (bs x.1), .string (bs x.2)] 100)) w.heap.size [x] := heap_new w _
theorem LRw.at_ {w : World} {b : Nat} {x : Lb} (h : LRw w b [x]) : LbAt w (some ⟨b, 0, none⟩) 1 1 [x] := by
  refine ⟨rfl, Nat.le_refl _, by omega, .inr ⟨b, 0, rfl, heap_lt h, fun i hi => ?_⟩⟩
  obtain rfl : i = 0 := by omega
  exact ⟨by rw [cell_of h]; rfl, by rw [cell_of h]; rfl⟩
end Go.Proofs.YtmifpfojhlmbkaaGreat
namespace Go.Proofs.YtmifpfojhlmbkaaGreat
set_option maxRecDepth 100000
set_option maxHeartbeats 16000000
open Go.RowKit
set_option linter.unusedVariables false
set_option linter.unusedSimpArgs false
theorem Few.mono {n k : Nat} {P : Spc} (h : Few n P) (e : n ≤ k) : Few k P := ⟨Nat.le_trans h.e e, Nat.le_trans h.g e, fun j hj => Nat.le_trans (h.z j hj) e⟩
def TurnO (base : Nat) (w0 W : World) (x : Nat) (m : Mem) (P P' : Spc) (v : Value) (e : Ending) (W' : World) : Prop :=
  e = .returned v ∧ ∃ m', HOwn base w0 W' x m' P' ∧ Ts (Own m P.E) W W'
theorem TurnO.of {base : Nat} {w0 W W' : World} {x : Nat} {m m' : Mem} {P P' : Spc} {v : Value} {e : Ending} (X : HOwn base w0 W x m P) (he : e = .returned v) (t : SpTurn W W' x m m' P.E P') : TurnO base w0 W x m P P' v e W' :=
  ⟨he, m', X.turn t, t.ts⟩
theorem oCreate {base : Nat} {w0 W : World} {x : Nat} {m : Mem} {P : Spc} (X : HOwn base w0 W x m P) (k : Tx) (sz ret pol : Int) (a : Option Addr) (n c : Nat) (l : List Lb) (hl : LbAt W a n c l) :
    Calls Tryz.prog 33 #[.pointer (some ⟨x, 0, none⟩), .string (bs k), .agg #[.int .i64 sz, .int .i64 ret, .int .i64 pol, .slice a n c]] W (TurnO base w0 W x m P (cSp P k sz ret pol l) (.int .i64 (bErr P k sz ret pol l))) :=
  (hCreate W x m P k sz ret pol a n c l X.sp hl).mono fun e W' ⟨he, m', t⟩ => .of X he t
theorem oAdd {base : Nat} {w0 W : World} {x : Nat} {m : Mem} {P : Spc} (X : HOwn base w0 W x m P) (k : Tx) (T V p : Int) (hf : Few 900 P) (hV : in64 V) :
    Calls Tryz.prog 18 #[.pointer (some ⟨x, 0, none⟩), .string (bs k), .agg #[.int .i64 T, .int .i64 V], .int .i64 p] W (TurnO base w0 W x m P (aSp P k T V p) (.int .i64 (aErr P k T V p))) :=
  (hAdd W x m P k T V p X.sp (hf.mono (by omega)) (Nat.le_trans hf.g (by omega)) hV).mono fun e W' ⟨he, t⟩ => .of X he t
theorem oInc {base : Nat} {w0 W : World} {x : Nat} {m : Mem} {P : Spc} (X : HOwn base w0 W x m P) (k : Tx) (t y : Int) (hf : Few 900 P) (hy : in64 y) :
    Calls Tryz.prog 29 #[.pointer (some ⟨x, 0, none⟩), .string (bs k), .int .i64 t, .int .i64 y] W (TurnO base w0 W x m P (iSp P k t y) (.tuple #[.int .i64 (iVal P k t y), .int .i64 (iErr P k t y)])) :=
  (hInc W x m P k t y X.sp (hf.mono (by omega)) (Nat.le_trans hf.g (by omega)) hy).mono fun e W' ⟨he, t⟩ => .of X he t
theorem oDel {base : Nat} {w0 W : World} {x : Nat} {m : Mem} {P : Spc} (X : HOwn base w0 W x m P) (k : Tx) (a b : Int) (hf : Few 900 P) :
    Calls Tryz.prog 30 #[.pointer (some ⟨x, 0, none⟩), .string (bs k), .int .i64 a, .int .i64 b] W (TurnO base w0 W x m P (dSp P k a b) (.tuple #[.int .i64 (dNum P k a b), .int .i64 (wErr P k)])) :=
  (hDel W x m P k a b X.sp (hf.mono (by omega)) (Nat.le_trans hf.g (by omega))).mono fun e W' ⟨he, t⟩ => .of X he t
theorem oAlter {base : Nat} {w0 W : World} {x : Nat} {m : Mem} {P : Spc} (X : HOwn base w0 W x m P) (k : Tx) (ret pol : Int) (a : Option Addr) (n c : Nat) (l : List Lb) (hl : LbAt W a n c l) (hf : Few 900 P) :
    Calls Tryz.prog 34 #[.pointer (some ⟨x, 0, none⟩), .string (bs k), .int .i64 ret, .int .i64 pol, .slice a n c] W (TurnO base w0 W x m P (lSp P k ret pol l) (.int .i64 (lErr P k ret pol l))) :=
  (hAlter W x m P k ret pol a n c l X.sp hl (hf.mono (by omega))).mono fun e W' ⟨he, m', t⟩ => .of X he t
theorem oDrop {base : Nat} {w0 W : World} {x : Nat} {m : Mem} {P : Spc} (X : HOwn base w0 W x m P) (k : Tx) (hf : Few 900 P) :
    Calls Tryz.prog 25 #[.pointer (some ⟨x, 0, none⟩), .string (bs k)] W (TurnO base w0 W x m P (goSp P k) (.bool (decide (P.has k)))) :=
  (hDrop W x m P k X.sp (Nat.le_trans hf.g (by omega))).mono fun e W' ⟨he, m', t⟩ => .of X he t
theorem oLink {base : Nat} {w0 W : World} {x : Nat} {m : Mem} {P : Spc} (X : HOwn base w0 W x m P) (r : Ru) (hf : Few 900 P) :
    Calls Tryz.prog 35 #[.pointer (some ⟨x, 0, none⟩), .agg #[.string (bs r.src), .string (bs r.dst), .int .i64 r.kind, .int .i64 r.size, .int .i64 r.align]] W (TurnO base w0 W x m P (kSp P r) (.int .i64 (kErr P r))) :=
  (hLink W x m P r X.sp (hf.mono (by omega)) hf.g).mono fun e W' ⟨he, m', t⟩ => .of X he t
theorem oUnlink {base : Nat} {w0 W : World} {x : Nat} {m : Mem} {P : Spc} (X : HOwn base w0 W x m P) (s d : Tx) (hf : Few 900 P) :
    Calls Tryz.prog 36 #[.pointer (some ⟨x, 0, none⟩), .string (bs s), .string (bs d)] W (TurnO base w0 W x m P (uSp P s d) (.int .i64 (dropE P.G s d))) :=
  (hUnlink W x m P s d X.sp (Nat.le_trans hf.g (by omega))).mono fun e W' ⟨he, m', t⟩ => .of X he t
theorem oTell {base : Nat} {w0 W : World} {x : Nat} {m : Mem} {P : Spc} (X : HOwn base w0 W x m P) (k : Tx) (q : Qry) (a : Option Addr) (n c : Nat) (hf : Few 900 P) (hi : IntAt W a n c q.tm) :
    Calls Tryz.prog 31 #[.pointer (some ⟨x, 0, none⟩), .string (bs k), qv q a n c] W (TellP (tSp P k q) W) := hTell W x m P k q a n c X.sp (hf.mono (by omega)) hi
def k0 : Spc := noSpc
def ta : Tx := [97]
def tb : Tx := [98]
def lx : List Lb := [([120], [49])]
def rab : Ru := ⟨[97], [98], 1, 10, 0⟩
def q100 : Qry := ⟨0, 100, false, 0, 0, 0, 0, false, [], false, 0, 0⟩
def qz : Qry := ⟨0, 0, false, 0, 0, 0, 0, false, [], false, 0, 0⟩
def k1 : Spc := cSp k0 ta 128 0 1 lx
def k2 : Spc := cSp k1 tb 128 0 1 lx
def k3 : Spc := kSp k2 rab
def k4 : Spc := aSp k3 ta 1 5 0
def k5 : Spc := aSp k4 ta 5 6 0
def k6 : Spc := iSp k5 ta 12 1
def k7 : Spc := dSp k6 ta 5 5
def k8 : Spc := uSp k7 ta tb
def k9 : Spc := goSp k8 ta
theorem Few.dec {n : Nat} {P : Spc} (h1 : P.E.length ≤ n) (h2 : P.G.length ≤ n) (h3 : ∀ k ∈ keysL P.E, (P.S k).z.length ≤ n) : Few n P := ⟨h1, h2, h3⟩
theorem few2 : Few 900 k2 := .dec (by decide +kernel) (by decide +kernel) (by decide +kernel)
theorem few3 : Few 900 k3 := .dec (by decide +kernel) (by decide +kernel) (by decide +kernel)
theorem few4 : Few 900 k4 := .dec (by decide +kernel) (by decide +kernel) (by decide +kernel)
theorem few5 : Few 900 k5 := .dec (by decide +kernel) (by decide +kernel) (by decide +kernel)
theorem few6 : Few 900 k6 := .dec (by decide +kernel) (by decide +kernel) (by decide +kernel)
theorem few7 : Few 900 k7 := .dec (by decide +kernel) (by decide +kernel) (by decide +kernel)
theorem few8 : Few 900 k8 := .dec (by decide +kernel) (by decide +kernel) (by decide +kernel)
theorem few9 : Few 900 k9 := .dec (by decide +kernel) (by decide +kernel) (by decide +kernel)
theorem k1e : bErr k0 ta 128 0 1 lx = 0 := by decide +kernel
theorem k2e : bErr k1 tb 128 0 1 lx = 0 := by decide +kernel
theorem k2f : bErr k2 ta 128 0 1 lx = 6 := by decide +kernel
theorem k2s : cSp k2 ta 128 0 1 lx = k2 := if_neg (by rw [k2f]; decide)
theorem k3e : kErr k2 rab = 0 := by decide +kernel
theorem k4e : aErr k3 ta 1 5 0 = 0 := by decide +kernel
theorem k5e : aErr k4 ta 5 6 0 = 0 := by decide +kernel
theorem k5t : tSp k5 tb q100 = ([], 0) := by decide +kernel
theorem k6e : iErr k5 ta 12 1 = 0 := by decide +kernel
theorem k6v : iVal k5 ta 12 1 = 7 := by decide +kernel
theorem k6t : tSp k6 tb q100 = ([(0, 11)], 0) := by decide +kernel
theorem k6f : aErr k6 tb 1 5 0 = 10 := by decide +kernel
theorem k6s : aSp k6 tb 1 5 0 = k6 := if_neg (by rw [k6f]; decide)
theorem k7n : dNum k6 ta 5 5 = 1 := by decide +kernel
theorem k7e : wErr k6 ta = 0 := by decide +kernel
theorem k7t : tSp k7 tb q100 = ([(0, 5)], 0) := by decide +kernel
theorem k7h : k7.has ta := by decide +kernel
theorem k7o : k7.Z ta = 128 ∧ (k7.S ta).ret = 0 ∧ (k7.S ta).pol = 1 ∧ ((look k7.E ta).getD []) = lx := by decide +kernel
theorem k7c : tSp k7 [99] qz = ([], 5) := by decide +kernel
theorem k8e : dropE k7.G ta tb = 0 := by decide +kernel
theorem k8g : k8.G = [] := by decide +kernel
theorem k8k : keysL k8.E = [ta, tb] := by decide +kernel
theorem k8h : k8.has ta := by decide +kernel
theorem k8l : (k8.S ta).z.length = 2 := by decide +kernel
theorem k8z : k8.Z ta = 128 := by decide +kernel
theorem k9h : ¬ k9.has ta := by decide +kernel
end Go.Proofs.YtmifpfojhlmbkaaGreat
namespace Go.Proofs.YtmifpfojhlmbkaaGreat
set_option maxRecDepth 100000
set_option maxHeartbeats 16000000
open Go.RowKit
set_option linter.unusedVariables false
set_option linter.unusedSimpArgs false
theorem Trn.walk {F : Nat → Prop} {w w' : World} {b : Nat} (g : w.grownBy w' (some b)) (hb : F b) (hm : ∃ m s se c, w.heap[b]? = some (.mapIter m s se c)) : Trn F w w' :=
  ⟨g.os, g.tape, g.output, g.size, fun i hi hf => g.block i hi (fun e => hf (by cases e; exact hb)), fun i c t f e => (g.block i (heap_lt e) (fun e' => by
    cases e'
    obtain ⟨m, s, se, cl, hm⟩ := hm
    rw [hm] at e; cases e)).trans e⟩
end Go.Proofs.YtmifpfojhlmbkaaGreat
namespace Go.Proofs.YtmifpfojhlmbkaaGreat
set_option maxRecDepth 100000
set_option maxHeartbeats 16000000
open Go.RowKit Go.Shelf
set_option linter.unusedVariables false
set_option linter.unusedSimpArgs false
attribute [local go_sem] Oper.semAt_some
theorem keysA_in (m : Nat) (hn : 1 ≤ m) (l Bm b : Nat) (L : List (Tx × Value)) (J Jx : List Tx → World → Prop)
    (hY : ∀ pre x W, J pre W → pre.length < L.length → YieldAt Fence.wide (m - 1) Tryz.prog l #[.string (bs x)] W fun e W' =>
      (e = .returned (.bool true) ∧ J (pre ++ [x]) W' ∧ KeepsWalks W W') ∨ (e = .returned (.bool false) ∧ Jx (pre ++ [x]) W'))
    (W : World) (hJ : AbidesFrom W.heap.size J) (hm : W.cell? ⟨Bm, 0, none⟩ = some (.map (some b))) (hL : MapAt W b L) (h0 : J [] W) :
    CallsIn Fence.wide m Tryz.prog 202 #[.func (.yield l) #[] #[], .pointer (some ⟨Bm, 0, none⟩)] W fun e W' => (∃ v, e = .returned v) ∧
      ((∃ ss : List Tx, ss.Perm (keysL L) ∧ J ss W') ∨ (∃ pre : List Tx, True ∧ Jx pre W')) := by
  refine callsIn_of_wp Tryz.func202 rfl trivial ?_ rfl
  simp only [Tryz.ntmps202, List.size_toArray, List.length_cons, List.length_nil, Nat.reduceAdd, Nat.reduceSub, Array.replicate_succ, Array.replicate_zero, List.push_toArray, List.append_toArray, List.nil_append, List.cons_append]
  gi_wp2_with (first
    | (gi_at_range; refine wpListIn_range_m _ rfl _ 168 rfl 9 28 Tryz.underlying168 b L rfl hL ?_; intro w0 hr0 hg0 hs0)
    | gi_in)
  go_frame
  gi_loopw [3] (fun _ wr => ∃ (left : List (Tx × Value)) (ss : List Tx), RngAt wr b W.heap.size L left ∧ (ss ++ keysL left).Perm (keysL L) ∧ J ss wr) (fun _ wr => wr.rangeLeft b W.heap.size)
  case atStart =>
    exact ⟨L, [], hr0, List.Perm.refl _, hJ [] W w0 none h0 hg0 (fun r e => by cases e)⟩
  case round =>
    obtain ⟨left, ss, hrg, hC, hJs⟩ := hrel
    have hlen : ss.length + left.length = L.length := by have := hC.length_eq; simp [keysL] at this; exact this
    gi_wp2_with (first
      | (gi_at_next; refine wpListIn_next_m _ rfl _ rfl b W.heap.size L left rfl hrg ?_ ?_)
      | gi_in)
    · intro h0
      subst h0
      gi_wp2
      go_end0
      exact ⟨⟨_, rfl⟩, .inl ⟨ss, by simpa [keysL] using hC, hJs⟩⟩
    · intro k v left' w2 hp hrg2 hg2 hs2 hen
      have hJ2 : J ss w2 := hJ ss wr w2 (some W.heap.size) hJs hg2 (fun r e => by cases e; exact ⟨Nat.le_refl _, hrg.walk⟩)
      have hll : left.length = left'.length + 1 := by rw [hp.length_eq]; rfl
      have hC2 : (ss ++ [k] ++ keysL left').Perm (keysL L) := by
        have h1 : (keysL left).Perm (k :: keysL left') := hp.map Prod.fst
        rw [List.append_assoc]
        exact (h1.symm.append_left ss).trans hC
      obtain ⟨fn, tmps, assign, body, hy, hR⟩ := hY ss k w2 hJ2 (by omega)
      clear hs2 hp
      gi_wp2
      refine hR.mono ?_
      rintro e W3 (⟨rfl, hJ3, hk3⟩ | ⟨rfl, hJx3⟩)
      · gi_wp2
        have hrg3 := hrg2.of_walks hk3
        go_roundw
        case rel => exact ⟨left', ss ++ [k], hrg3, hC2, hJ3⟩
        case measure => rw [hrg3.left_eq, hrg.left_eq]; omega
      · gi_wp2
        refine bodyPost_ret (results_none rfl _ _ _) rfl ?_
        exact ⟨⟨_, rfl⟩, .inr ⟨ss ++ [k], trivial, hJx3⟩⟩
theorem keysA_stops (m : Nat) (hn : 1 ≤ m) (Bm b : Nat) (L : List (Tx × Value)) (w : World) (hBm : Bm < w.heap.size) (hm : w.cell? ⟨Bm, 0, none⟩ = some (.map (some b))) (hL : MapAt w b L) :
    SeqStopsK Fence.wide m Tryz.prog 202 #[.pointer (some ⟨Bm, 0, none⟩)] (fun x : Tx => #[.string (bs x)]) KeepsWalks (fun ss => ss.Perm (keysL L)) (fun _ => True) L.length w := fun l J Jx W hW hJ _ hY h0 =>
  keysA_in m hn l Bm b L J Jx hY W hJ ((hW.cell (p := ⟨Bm, 0, none⟩) hBm).trans hm) (hL.keep hW) h0
theorem keysA_call (mb : Option Nat) (w : World) :
    Calls Tryz.prog 132 #[.map mb] w fun e w' => e = .returned (.func (.func 202) #[] #[.pointer (some ⟨w.heap.size, 0, none⟩)]) ∧ w' = w.alloc (.cells #[.map mb] 168) := by
  go_enter Tryz.func132, Tryz.ntmps132
  go_wp2
  go_ret
  exact ⟨rfl, rfl⟩
end Go.Proofs.YtmifpfojhlmbkaaGreat
namespace Go.Proofs.YtmifpfojhlmbkaaGreat
set_option maxRecDepth 100000
set_option maxHeartbeats 16000000
open Go.RowKit
set_option linter.unusedVariables false
set_option linter.unusedSimpArgs false
theorem Drew.bel {w w' : World} (h : Drew w w') : Below w.heap.size w w' := gb_below_none (h.gb none)
theorem Drew.trans {a b c : World} (h : Drew a b) (k : Drew b c) : Drew a c := by
  obtain ⟨m, rfl⟩ := h; obtain ⟨n, rfl⟩ := k; exact ⟨_, World.drewN_drewN ..⟩
def Sh (l : List Tx) : Prop := ∀ x ∈ l, x.length ≤ 9223372036854775807
theorem Sh.at_ {l : List Tx} (h : Sh l) (j : Nat) : (l.getD j []).length ≤ 9223372036854775807 := by
  by_cases hj : j < l.length
  · rw [getD_get hj]; exact h _ (List.getElem_mem hj)
  · rw [List.getD_eq_getElem?_getD, List.getElem?_eq_none (by omega)]; simp
theorem same8_any (a : Option Addr) (n c : Nat) (l : List Tx) (a2 : Option Addr) (n2 c2 : Nat) (k : List Tx) (w : World) (h : TxAt w a n c l) (h2 : TxAt w a2 n2 c2 k) :
    Calls Tryz.prog 23 #[.slice a n c, .slice a2 n2 c2] w fun e w' => e = .returned (.bool (decide (l = k))) ∧ Drew w w' := by
  by_cases hn : n = n2
  · subst hn
    have HL := Lib.hid h.1
    have HL2 := Lib.hid h2.1
    have hb := h.2.2.1
    have HS := Lib.hid h
    have HS2 := Lib.hid h2
    clear h h2
    go_enter Tryz.func23, Tryz.ntmps23
    go_wp2
    go_loopw [5] (fun i wr => ∃ j : Nat, j ≤ n ∧ i = .int .i64 (j : Int) ∧ Hid (l.take j = k.take j) ∧ Drew w wr) (fun i _ => n - (intOf i).toNat)
    case atStart => exact ⟨0, Nat.zero_le _, rfl, Lib.hid (by simp), 0, rfl⟩
    case round =>
      obtain ⟨j, hj, rfl, HT, hd⟩ := hrel
      by_cases hjn : j < n
      · obtain ⟨m, rfl⟩ := hd
        obtain ⟨p, o, rfl, hp, x0⟩ := HS.out.at_ j hjn
        obtain ⟨p2, o2, rfl, hp2, x1⟩ := HS2.out.at_ j hjn
        have y0 : ∀ q, (w.drewN q).cell? ⟨p, o + j, none⟩ = _ := fun q => x0
        have y1 : ∀ q, (w.drewN q).cell? ⟨p2, o2 + j, none⟩ = _ := fun q => x1
        have t1 := eq_bs (l.getD j []) (k.getD j [])
        by_cases he : l.getD j [] = k.getD j []
        · have HN := Lib.hid (show l.take (j + 1) = k.take (j + 1) from by
            rw [getD_get (by rw [HL.out]; exact hjn), getD_get (by rw [HL2.out]; exact hjn)] at he
            rw [List.take_succ_eq_append_getElem (by rw [HL.out]; exact hjn), List.take_succ_eq_append_getElem (by rw [HL2.out]; exact hjn), HT.out, he])
          rw [decide_eq_true he] at t1
          generalize bs (l.getD j []) = s at *
          generalize bs (k.getD j []) = u at *
          clear he HT
          go_wp2
          go_quiet (fail)
          go_wp2
          go_roundw
          case rel => exact ⟨j + 1, by omega, by go_num, HN, by first | exact ⟨_, World.drewN_drewN ..⟩ | exact ⟨_, rfl⟩⟩
          case measure => simp [intOf]; omega
        · have HN := Lib.hid (show l ≠ k from fun e => he (by rw [e]))
          rw [decide_eq_false he] at t1
          generalize bs (l.getD j []) = s at *
          generalize bs (k.getD j []) = u at *
          clear he HT
          go_wp2
          go_quiet (fail)
          go_wp2
          go_ret
          exact ⟨ret_bool (decide_eq_false HN.out).symm, by first | exact ⟨_, World.drewN_drewN ..⟩ | exact ⟨_, rfl⟩⟩
      · have HN := Lib.hid (show l = k from by have := HT.out; rwa [List.take_of_length_le (by rw [HL.out]; omega), List.take_of_length_le (by rw [HL2.out]; omega)] at this)
        obtain rfl : j = n := by omega
        go_wp2
        go_ret
        exact ⟨ret_bool (decide_eq_true HN.out).symm, hd⟩
  · have tb : ((n : Int) != (n2 : Int)) = true := by rw [bne_iff_ne]; omega
    have HN := Lib.hid (show l ≠ k from fun e => hn (by rw [← h.1, ← h2.1, e]))
    clear h h2 hn
    go_enter Tryz.func23, Tryz.ntmps23
    go_wp2
    go_ret
    exact ⟨ret_bool (decide_eq_false HN.out).symm, 0, rfl⟩
def lightL (l : List Tx) : Prop := l.length ≤ 40 ∧ ∀ x ∈ l, x.length ≤ 100
instance (l : List Tx) : Decidable (lightL l) := inferInstanceAs (Decidable (_ ∧ _))
end Go.Proofs.YtmifpfojhlmbkaaGreat
namespace Go.Proofs.YtmifpfojhlmbkaaGreat
set_option maxRecDepth 100000
set_option maxHeartbeats 16000000
open Go.RowKit
set_option linter.unusedVariables false
set_option linter.unusedSimpArgs false
theorem TRow.mono {w : World} {base base' : Nat} {v : Value} {l : List Tx} (h : TRow w base v l) (hb : base' ≤ base) : TRow w base' v l := by
  refine ⟨h.1, ?_⟩
  rcases h.2 with e | ⟨g, cap, cur, rfl, hbg, r⟩
  · exact .inl e
  · exact .inr ⟨g, cap, cur, rfl, by omega, r⟩
theorem TxAt.cons {w : World} {a : Option Addr} {n c : Nat} {p : Tx} {l : List Tx} (h : TxAt w a n c (p :: l)) :
    ∃ b off m k, a = some ⟨b, off, none⟩ ∧ n = m + 1 ∧ c = k + 1 ∧ b < w.heap.size ∧ w.cell? ⟨b, off, none⟩ = some (.string (bs p)) ∧
      ∃ a', (∀ W : World, (Instr.slice 49 (.slice (some ⟨b, off, none⟩) (m + 1) (k + 1)) (some (.int .i64 1)) none none).run Tryz.prog W = .ok (.slice a' m k) W) ∧ TxAt w a' m k l := by
  have h1 := h.1
  have h2 := h.2.1
  have h3 := h.2.2.1
  rw [List.length_cons] at h1
  obtain ⟨b, off, rfl, hb, hc⟩ := h.at_ 0 (by omega)
  obtain ⟨a', hr, ht⟩ := h.from_ 1 (by omega)
  obtain ⟨k, rfl⟩ : ∃ k, c = k + 1 := ⟨c - 1, by omega⟩
  subst h1
  exact ⟨b, off, l.length, k, rfl, rfl, rfl, hb, hc, a', hr, ht⟩
end Go.Proofs.YtmifpfojhlmbkaaGreat
namespace Go.Proofs.YtmifpfojhlmbkaaGreat
set_option maxRecDepth 100000
set_option maxHeartbeats 16000000
open Go.RowKit
set_option linter.unusedVariables false
set_option linter.unusedSimpArgs false
def SortP (w : World) (l : List Tx) (e : Ending) (w' : World) : Prop := ∃ a c, e = .returned (.slice a l.length c) ∧ TxAt w' a l.length c l ∧ Below w.heap.size w w'
theorem MadeE.from_ {w W w' : World} {l : List Tx} {e : Ending} (h : MadeE W l e w') (hb : Below w.heap.size w W) : MadeE w l e w' := by
  obtain ⟨v, rfl, h1, h2⟩ := h
  exact ⟨v, rfl, h1.mono hb.size, hb.trans (h2.mono hb.size)⟩
theorem TxAt.len {w : World} {a : Option Addr} {n c : Nat} {l : List Tx} (h : TxAt w a n c l) : TxAt w a l.length c l := by
  have := h.1
  subst this; exact h
end Go.Proofs.YtmifpfojhlmbkaaGreat
namespace Go.Proofs.YtmifpfojhlmbkaaGreat
set_option maxRecDepth 100000
set_option maxHeartbeats 16000000
open Go.RowKit Go.Shelf
set_option linter.unusedVariables false
set_option linter.unusedSimpArgs false
theorem SortP.pre {w w1 w' : World} {l : List Tx} {e : Ending} (hb : Below w.heap.size w w1) (h : SortP w1 l e w') : SortP w l e w' := by
  obtain ⟨a, c, e1, h1, h2⟩ := h
  exact ⟨a, c, e1, h1, hb.trans (h2.mono hb.size)⟩
theorem enters_keysA : ∀ args w, (callFunc 202 args).run Tryz.prog w = .ok (.enter 202 args) w := enters_of Tryz.func202 (by kernel_rfl) rfl
theorem ikeys_made (w : World) (x bl bn : Nat) (ρ : Rho) (E : List Ent) (h : IxAt w x bl bn ρ E) (hE : E.length ≤ 100000) :
    Calls Tryz.prog 65 #[.pointer (some ⟨x, 0, none⟩)] w (MadeE w (keysL E)) := by
  obtain ⟨hc, rl, rn, ⟨T, t1, t2, t3⟩, hn, hok, hg⟩ := h
  have hss := hg.ss
  have hkp : (keysL (T.map mpV)).Perm (keysL E) := by
    rw [keysL_map mpV (fun _ => rfl), ← keysL_map mpL (fun _ => rfl)]
    exact t2.map Prod.fst
  have hTl : (T.map mpV).length = E.length := by have := t2.length_eq; simpa using this
  have B1 := (Below.refl w.heap.size w).alloc (Nat.le_refl _) (.cells #[mp bl] 168)
  have HS := Lib.hid (keysA_stops 2 (by omega) w.heap.size bl (T.map mpV) (w.alloc (.cells #[mp bl] 168)) (by simp) (by rw [cell_of (heap_new w _)]; rfl) (t1.keep B1))
  have HC := Lib.hid hc
  have HB := Lib.hid B1
  have HK := Lib.hid (fun (ss : List Tx) (hs : ss.Perm (keysL (T.map mpV))) => show canon ss = keysL E ∧ ss.length ≤ 100000 from ⟨canon_keys hss (hs.trans hkp), by rw [hs.length_eq]; unfold keysL; rw [List.length_map, hTl]; exact hE⟩)
  have c0 := hc.c0
  have hTL : (T.map mpV).length ≤ 1000000 := by omega
  clear t1 t2 t3 hn hok hg hc rl rn hkp B1 hss hTl
  generalize T.map mpV = L at *
  generalize keysL E = R at *
  go_enter Tryz.func65, Tryz.ntmps65
  go_wp2_with fail
  refine (iNone_no w x bl bn HC.out).mono ?_
  rintro e w' ⟨rfl, rfl⟩
  go_wp2_with fail
  refine (keysA_call _ _).mono ?_
  rintro e w1 ⟨rfl, rfl⟩
  go_wp2_with fail
  refine (collect_any _ _ enters_keysA _ _ _ HS.out hTL).mono ?_
  rintro e w2 ⟨a, c, ss, rfl, hs, t2, b2⟩
  obtain ⟨hk, hl⟩ := HK.out ss hs
  have HT := Lib.hid t2
  have B2 := Lib.hid (HB.out.trans (b2.mono HB.out.size))
  have HKK := Lib.hid hk
  clear hs t2 b2 hk HS HK HB
  generalize hq : ss.length = q at *
  go_wp2_with fail
  refine (of_any a q c ss w2 HT.out (by omega)).mono ?_
  intro e w3 hm
  rw [HKK.out] at hm
  have HM := Lib.hid (MadeE.from_ hm B2.out)
  obtain ⟨v, rfl, t3, b3⟩ := HM.out
  have T3 := Lib.hid t3
  have B3 := Lib.hid b3
  clear hm HM t3 b3
  go_wp2
  go_ret
  exact ⟨v, rfl, T3.out, B3.out⟩
end Go.Proofs.YtmifpfojhlmbkaaGreat
namespace Go.Proofs.YtmifpfojhlmbkaaGreat
set_option maxRecDepth 100000
set_option maxHeartbeats 16000000
open Go.RowKit
set_option linter.unusedVariables false
set_option linter.unusedSimpArgs false
def SerP (sz : Int) (s : Ser) (w : World) (e : Ending) (w' : World) : Prop := ∃ o, e = .returned (.pointer (some ⟨o, 0, none⟩)) ∧ w.heap.size ≤ o ∧ SerAt w' o sz s ∧ Below w.heap.size w w'
theorem hSeries_ok (w : World) (x : Nat) (m : Mem) (P : Spc) (k : Tx) (h : SpAt w x m P) (hk : P.has k) (hn : (P.S k).z.length ≤ 100000) :
    Calls Tryz.prog 19 #[.pointer (some ⟨x, 0, none⟩), .string (bs k)] w (SerP (P.Z k) (P.S k) w) := by
  have HF := Lib.hid (hFind_ok w x m P k h hk)
  have HC := Lib.hid (fun W (q : SpAt W x m P) => copy_ser (m.B k) (P.Z k) (P.S k) W (q.ser k hk) (h.ok.siz k hk).1 hn)
  have H := Lib.hid h
  clear h hk
  go_enter Tryz.func19, Tryz.ntmps19
  go_wp2_with fail
  refine HF.out.mono ?_
  rintro e w1 ⟨rfl, b1⟩
  have H1 := Lib.hid (H.out.keep b1)
  have B1 := Lib.hid b1
  clear b1
  go_wp2_with fail
  refine (HC.out _ H1.out).mono ?_
  rintro e w2 ⟨o, rfl, ho, s2, b2⟩
  have S2 := Lib.hid s2
  have B2 := Lib.hid (B1.out.trans (b2.mono B1.out.size))
  have HO := Lib.hid (show w.heap.size ≤ o from Nat.le_trans B1.out.size ho)
  clear s2 b2 ho
  go_wp2
  go_ret
  exact ⟨o, rfl, HO.out, S2.out, B2.out⟩
theorem hKeys (w : World) (x : Nat) (m : Mem) (P : Spc) (h : SpAt w x m P) (hE : P.E.length ≤ 100000) :
    Calls Tryz.prog 20 #[.pointer (some ⟨x, 0, none⟩)] w (MadeE w (keysL P.E)) := by
  have HK := Lib.hid (ikeys_made w m.ix m.bl m.bn m.ρ P.E h.ix hE)
  have HC := Lib.hid h.cell
  have c1 := h.cell.c1
  clear h
  go_enter Tryz.func20, Tryz.ntmps20
  go_wp2_with fail
  refine (hNone_no w x m HC.out).mono ?_
  rintro e w' ⟨rfl, rfl⟩
  go_wp2_with fail
  refine HK.out.mono ?_
  intro e w2 hm
  obtain ⟨v, rfl, r, b⟩ := hm
  have R := Lib.hid r
  have B := Lib.hid b
  clear r b
  go_wp2
  go_ret
  exact ⟨v, rfl, R.out, B.out⟩
theorem hRules (w : World) (x : Nat) (m : Mem) (P : Spc) (h : SpAt w x m P) (hG : P.G.length ≤ 1000) :
    Calls Tryz.prog 12 #[.pointer (some ⟨x, 0, none⟩)] w fun e w' => ∃ v, e = .returned v ∧ URow 32 w' w.heap.size v P.G ∧ Below w.heap.size w w' := by
  have HK := Lib.hid (gall_ok w m.gx m.bi m.bf m.F P.G h.gr hG)
  have HC := Lib.hid h.cell
  have c2 := h.cell.c2
  clear h
  go_enter Tryz.func12, Tryz.ntmps12
  go_wp2_with fail
  refine (hNone_no w x m HC.out).mono ?_
  rintro e w' ⟨rfl, rfl⟩
  go_wp2_with fail
  refine HK.out.mono ?_
  rintro e w2 ⟨v, rfl, r, b⟩
  have R := Lib.hid r
  have B := Lib.hid b
  clear r b
  go_wp2
  go_ret
  exact ⟨v, rfl, R.out, B.out⟩
end Go.Proofs.YtmifpfojhlmbkaaGreat
