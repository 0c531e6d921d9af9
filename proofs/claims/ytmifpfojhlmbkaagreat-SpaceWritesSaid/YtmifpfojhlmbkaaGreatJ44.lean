/-
  Contracts.
-/
import Derived.Test.YtmifpfojhlmbkaaGreatJ19
import Derived.Test.YtmifpfojhlmbkaaGreatJ23
import Derived.Test.YtmifpfojhlmbkaaGreatJ26
import Derived.Test.YtmifpfojhlmbkaaGreatJ32
import Derived.Test.YtmifpfojhlmbkaaGreatJ34
import Derived.Test.YtmifpfojhlmbkaaGreatJ36
import Derived.Test.YtmifpfojhlmbkaaGreatJ38
import Derived.Deep.RegionHeld3
import Derived.RangeFuncNested
import Derived.RangeFuncBound
import Derived.RangeFuncCalls
import Derived.RangeFuncLeaves
import Derived.RangeFuncBox
import Derived.Shelf.Abstract
import Derived.Shelf.RegionOpen
import Derived.WalkKit
import Derived.OwnWalkIn
import Derived.TacticsInMore
import Derived.LoopNIn
import Derived.LoopIn
import Derived.Maps.AppendAt
import Derived.Laws.IdiomRangeMap
namespace Go.Proofs.YtmifpfojhlmbkaaGreat
open Lib (hid)
set_option maxRecDepth 100000
set_option maxHeartbeats 16000000
open Go.RowKit
set_option linter.unusedVariables false
set_option linter.unusedSimpArgs false
theorem RngAt.iter {w : World} {b r : Nat} {L left : List (Tx × Value)} (h : RngAt w b r L left) : ∃ m s se c, w.heap[r]? = some (.mapIter m s se c) := by
  obtain ⟨es, clock, since, seen, c0, h1, h2, h3, h4, h5, _⟩ := h
  exact ⟨_, _, _, _, h5⟩
theorem Trn.walk {F : Nat → Prop} {w w' : World} {b : Nat} (g : w.grownBy w' (some b)) (hb : F b) (hm : ∃ m s se c, w.heap[b]? = some (.mapIter m s se c)) : Trn F w w' :=
  ⟨g.os, g.tape, g.output, g.size, fun i hi hf => g.block i hi (fun e => hf (by cases e; exact hb)), fun i c t f e => (g.block i (heap_lt e) (fun e' => by
    cases e'
    obtain ⟨m, s, se, cl, hm⟩ := hm
    rw [hm] at e; cases e)).trans e⟩
theorem RhoOk.no_iter {w : World} {ρ : Rho} (h : RhoOk w ρ) {r : Nat} (hr : ∃ m s se c, w.heap[r]? = some (.mapIter m s se c)) : ¬ FA ρ r := by
  intro f
  cases e : ρ r with
  | none => exact f e
  | some q =>
    obtain ⟨es, c, hm⟩ := h r q e
    obtain ⟨m, s, se, cl, hi⟩ := hr
    rw [hm] at hi; cases hi
theorem left_step {Tl : List (Tx × (Value × List Lb))} {left left' : List (Tx × Value)} {k : Tx} {v : Value} (h : left.Perm (Tl.map mpV)) (hp : left.Perm ((k, v) :: left')) :
    ∃ l Tl', Tl.Perm ((k, v, l) :: Tl') ∧ left'.Perm (Tl'.map mpV) := by
  have hm : (k, v) ∈ Tl.map mpV := h.mem_iff.1 (hp.mem_iff.2 (by simp))
  obtain ⟨⟨k', v', l⟩, ht, e⟩ := List.mem_map.1 hm
  simp only [mpV, Prod.mk.injEq] at e
  obtain ⟨rfl, rfl⟩ := e
  obtain ⟨A, B, rfl⟩ := List.append_of_mem ht
  refine ⟨l, A ++ B, List.perm_middle, ?_⟩
  have h1 : ((k', v') :: left').Perm ((k', v') :: (A ++ B).map mpV) := hp.symm.trans (h.trans ((List.perm_middle).map mpV))
  exact h1.cons_inv
theorem icopy_ok (w : World) (x bl bn : Nat) (ρ : Rho) (E : List Ent) (h : IxAt w x bl bn ρ E) :
    Calls Tryz.prog 59 #[.pointer (some ⟨x, 0, none⟩)] w fun e w' => ∃ y b2 n2 ρ2, e = .returned (.pointer (some ⟨y, 0, none⟩)) ∧ IxAt w' y b2 n2 ρ2 E ∧ Below w.heap.size w w' ∧ ∀ i, FA ρ2 i → w.heap.size ≤ i := by
  obtain ⟨hc, rl, rn, ⟨T, t1, t2, t3⟩, hn, hok, hg⟩ := h
  have HG := hid hg
  have HC := hid hc
  have H1 := hid t1
  have H2 := hid t2
  have H3 := hid t3
  clear t1 t2 t3 hn hok hg hc rl rn
  go_enter Tryz.func59, Tryz.ntmps59
  go_wp2_with fail
  refine (iNone_no w x bl bn HC.out).mono ?_
  rintro e w' ⟨rfl, rfl⟩
  go_wp2_with fail
  refine (new_any w).mono ?_
  rintro e w1 ⟨y, b2, n2, ρ1, rfl, x1, bb1, f1⟩
  have X1 := hid x1
  have B1 := hid bb1
  have F1 := hid f1
  have c0 := (HC.out.trn (F := fun _ => False) (.of bb1)).c0
  have H1' := hid (H1.out.keep bb1)
  have hbl := H1.out.lt
  clear x1 bb1 f1 H1
  go_wp2_with (first
    | (at_range; refine wpList_range_m _ rfl _ 168 rfl 9 28 Tryz.underlying168 bl _ rfl H1'.out ?_; intro w2 hr2 g2 hs2))
  go_frame
  have R2 := hid hr2
  have bb2 := gb_below_none g2
  have B2 := hid (B1.out.trans (bb2.mono B1.out.size))
  have X2 := hid (X1.out.keep bb2)
  have hrs : w.heap.size ≤ w1.heap.size := B1.out.size
  clear hr2 g2 hs2 bb2 c0 X1 B1 H1'
  generalize w1.heap.size = r at *
  go_loopw [4] (fun _ wr => ∃ (ρ2 : Rho) (Eo : List Ent) (left : List (Tx × Value)) (Tl : List (Tx × (Value × List Lb))), Hid (IxAt wr y b2 n2 ρ2 Eo) ∧ Hid (∀ i, FA ρ2 i → w.heap.size ≤ i) ∧ Hid (left.Perm (Tl.map mpV)) ∧ Hid ((Eo ++ Tl.map mpL).Perm E) ∧ Hid (∀ p ∈ Tl, LbV w p.2.1 p.2.2) ∧ Hid (RngAt wr bl r (T.map mpV) left) ∧ Hid (Below w.heap.size w wr)) (fun _ wr => wr.rangeLeft bl r)
  case atStart => exact ⟨ρ1, [], T.map mpV, T, X2, F1, hid (List.Perm.refl _), H2, H3, R2, B2⟩
  case round =>
    obtain ⟨ρ2, Eo, left, Tl, X, F, HL, HE, HV, R, B⟩ := hrel
    clear X2 R2 B2 F1
    go_wp2_with (first
      | (at_next; refine wpList_next_m _ rfl _ rfl bl r (T.map mpV) left rfl R.out ?_ ?_)
      | go_in)
    · intro h0
      subst h0
      have e0 : Tl = [] := by have := HL.out.length_eq; simp at this; exact List.eq_nil_of_length_eq_zero this.symm
      subst e0
      have hEo : Eo = E := by
        have hp := HE.out
        simp only [List.map_nil, List.append_nil] at hp
        exact ssG_ext X.out.good.ss HG.out.ss (fun p => hp.mem_iff)
      subst hEo
      go_wp2
      go_ret
      exact ⟨y, b2, n2, ρ2, rfl, X.out, B.out, F.out⟩
    · intro k v left' w3 hp hr3 g3 hs3 hen
      obtain ⟨l, Tl', hT, hL'⟩ := left_step HL.out hp
      obtain ⟨a, c, rfl, hlb, hty⟩ : ∃ a c, v = .slice a l.length c ∧ LbAt w a l.length c l ∧ LbTy w a l := HV.out (k, v, l) (hT.mem_iff.2 (by simp))
      have hlb' : LbAt w a l.length c l := hlb
      have hno := X.out.ok.no_iter R.out.iter
      have t3 : Trn (fun i => i = r) wr w3 := .walk g3 rfl R.out.iter
      have X3 := hid (X.out.trn t3 (fun i _ f e => hno (e ▸ f)))
      have B3 := hid (bel_gb B.out B.out.size hrs g3)
      have HE' := HE.out
      have hperm : (Eo ++ (k, l) :: Tl'.map mpL).Perm E := (List.Perm.append_left Eo ((hT.map mpL).symm)).trans HE'
      have hnd : (keysL (Eo ++ (k, l) :: Tl'.map mpL)).Nodup := ((hperm.map Prod.fst).nodup_iff).2 (ssG_nodup HG.out.ss)
      have hk : k ∉ keysL Eo := fun hm => by
        simp only [keysL, List.map_append, List.map_cons] at hnd
        exact (List.nodup_append.1 hnd).2.2 k hm k (by simp) rfl
      have hin : (k, l) ∈ E := hperm.mem_iff.1 (by simp)
      have K1 := hid (show k ∉ keysL Eo ∧ keyB k ∧ rightL l ∧ SS (keysL l) ∧ LbAt w3 a l.length c l ∧ LbTy w3 a l from ⟨hk, HG.out.key _ hin, HG.out.right _ hin, HG.out.srt _ hin, hlb'.trn (F := fun i => i = r) ((Trn.of B.out).trans t3 (fun _ _ e => e)), hty.trn (F := fun i => i = r) ((Trn.of B.out).trans t3 (fun _ _ e => e))⟩)
      have HE3 := hid (show (insG (k, l) Eo ++ Tl'.map mpL).Perm E from ((insG_perm (k, l) Eo).append_right _).trans (List.perm_middle.symm.trans hperm))
      have HL3 := hid hL'
      have HV3 : Hid (∀ p ∈ Tl', LbV w p.2.1 p.2.2) := hid (fun p hp' => HV.out p (hT.mem_iff.2 (List.mem_cons_of_mem _ hp')))
      have R3 := hid hr3
      have hlt : left'.length < left.length := by rw [hp.length_eq]; simp
      generalize l.length = n at *
      clear hT hL' hp hr3 g3 hs3 hlb hlb' hty hno t3 HE' hperm hnd hk hin X HL HE HV B
      go_wp2_with fail
      refine (iput_ok w3 y b2 n2 ρ2 Eo k a n c l X3.out K1.out.1 K1.out.2.1 K1.out.2.2.1 K1.out.2.2.2.1 K1.out.2.2.2.2.1 K1.out.2.2.2.2.2).mono ?_
      rintro e w4 ⟨rfl, ρ4, t4⟩
      have X4 := hid t4.ix
      have hf3 : ∀ i, i < w.heap.size → ¬ FA ρ2 i := fun i hi f => by have := F.out i f; omega
      have B4 := hid (Trn.below B3.out B3.out.size t4.trn hf3)
      have hno3 := X3.out.ok.no_iter R3.out.iter
      have R4 := hid (R3.out.same (t4.trn.block bl R3.out.map.lt (hf3 bl hbl)) (t4.trn.block r R3.out.lt hno3))
      have F4 : Hid (∀ i, FA ρ4 i → w.heap.size ≤ i) := hid (fun i f => by
        by_cases hi : i < w3.heap.size
        · refine F.out i ?_
          unfold FA at *
          rw [t4.ext i hi] at f; exact f
        · have := B3.out.size; omega)
      clear t4 X3 B3 hf3 hno3 R3 F K1
      go_wp2
      go_roundw
      case rel => exact ⟨ρ4, insG (k, l) Eo, left', Tl', X4, F4, HL3, HE3, HV3, R4, B4⟩
      case measure => rw [R4.out.left_eq, R.out.left_eq]; exact hlt
open Go.RowKit Go.Shelf
attribute [local go_sem] Oper.semAt_some
theorem keysA_in (m : Nat) (hn : 1 ≤ m) (l Bm b : Nat) (L : List (Tx × Value)) (J Jx : List Tx → World → Prop)
    (hY : ∀ pre x W, J pre W → pre.length < L.length → YieldAt Fence.wide (m - 1) Tryz.prog l #[.string (bs x)] W fun e W' =>
      (e = .returned (.bool true) ∧ J (pre ++ [x]) W' ∧ KeepsWalks W W') ∨ (e = .returned (.bool false) ∧ Jx (pre ++ [x]) W'))
    (W : World) (hJ : AbidesFrom W.heap.size J) (hm : W.cell? ⟨Bm, 0, none⟩ = some (.map (some b))) (hL : MapAt W b L) (h0 : J [] W) :
    CallsIn Fence.wide m Tryz.prog 202 #[.func (.yield l) #[] #[], .pointer (some ⟨Bm, 0, none⟩)] W fun e W' => (∃ v, e = .returned v) ∧
      ((∃ ss : List Tx, ss.Perm (keysL L) ∧ J ss W') ∨ (∃ pre : List Tx, True ∧ Jx pre W')) := by
  refine callsIn_of_wp Tryz.func202 rfl trivial ?_ rfl
  simp only [Tryz.ntmps202, List.size_toArray, List.length_cons, List.length_nil, Nat.reduceAdd, Nat.reduceSub, Array.replicate_succ, Array.replicate_zero, List.push_toArray, List.append_toArray, List.nil_append, List.cons_append]
  gi_wp2_with (first
    | (gi_at_range; refine wpListIn_range_m _ rfl _ 168 rfl 9 28 Tryz.underlying168 b L rfl hL ?_; intro w0 hr0 hg0 hs0)
    | gi_in)
  go_frame
  gi_loopw [3] (fun _ wr => ∃ (left : List (Tx × Value)) (ss : List Tx), RngAt wr b W.heap.size L left ∧ (ss ++ keysL left).Perm (keysL L) ∧ J ss wr) (fun _ wr => wr.rangeLeft b W.heap.size)
  case atStart =>
    exact ⟨L, [], hr0, List.Perm.refl _, hJ [] W w0 none h0 hg0 (fun r e => by cases e)⟩
  case round =>
    obtain ⟨left, ss, hrg, hC, hJs⟩ := hrel
    have hlen : ss.length + left.length = L.length := by have := hC.length_eq; simp [keysL] at this; exact this
    gi_wp2_with (first
      | (gi_at_next; refine wpListIn_next_m _ rfl _ rfl b W.heap.size L left rfl hrg ?_ ?_)
      | gi_in)
    · intro h0
      subst h0
      gi_wp2
      go_end0
      exact ⟨⟨_, rfl⟩, .inl ⟨ss, by simpa [keysL] using hC, hJs⟩⟩
    · intro k v left' w2 hp hrg2 hg2 hs2 hen
      have hJ2 : J ss w2 := hJ ss wr w2 (some W.heap.size) hJs hg2 (fun r e => by cases e; exact ⟨Nat.le_refl _, hrg.walk⟩)
      have hll : left.length = left'.length + 1 := by rw [hp.length_eq]; rfl
      have hC2 : (ss ++ [k] ++ keysL left').Perm (keysL L) := by
        have h1 : (keysL left).Perm (k :: keysL left') := hp.map Prod.fst
        rw [List.append_assoc]
        exact (h1.symm.append_left ss).trans hC
      obtain ⟨fn, tmps, assign, body, hy, hR⟩ := hY ss k w2 hJ2 (by omega)
      clear hs2 hp
      gi_wp2
      refine hR.mono ?_
      rintro e W3 (⟨rfl, hJ3, hk3⟩ | ⟨rfl, hJx3⟩)
      · gi_wp2
        have hrg3 := hrg2.of_walks hk3
        go_roundw
        case rel => exact ⟨left', ss ++ [k], hrg3, hC2, hJ3⟩
        case measure => rw [hrg3.left_eq, hrg.left_eq]; omega
      · gi_wp2
        refine bodyPost_ret (results_none rfl _ _ _) rfl ?_
        exact ⟨⟨_, rfl⟩, .inr ⟨ss ++ [k], trivial, hJx3⟩⟩
theorem keysA_stops (m : Nat) (hn : 1 ≤ m) (Bm b : Nat) (L : List (Tx × Value)) (w : World) (hBm : Bm < w.heap.size) (hm : w.cell? ⟨Bm, 0, none⟩ = some (.map (some b))) (hL : MapAt w b L) :
    SeqStopsK Fence.wide m Tryz.prog 202 #[.pointer (some ⟨Bm, 0, none⟩)] (fun x : Tx => #[.string (bs x)]) KeepsWalks (fun ss => ss.Perm (keysL L)) (fun _ => True) L.length w := fun l J Jx W hW hJ _ hY h0 =>
  keysA_in m hn l Bm b L J Jx hY W hJ ((hW.cell (p := ⟨Bm, 0, none⟩) hBm).trans hm) (hL.keep hW) h0
theorem keysA_call (mb : Option Nat) (w : World) :
    Calls Tryz.prog 132 #[.map mb] w fun e w' => e = .returned (.func (.func 202) #[] #[.pointer (some ⟨w.heap.size, 0, none⟩)]) ∧ w' = w.alloc (.cells #[.map mb] 168) := by
  go_enter Tryz.func132, Tryz.ntmps132
  go_wp2
  go_ret
  exact ⟨rfl, rfl⟩
theorem lt_app (p a b : Tx) : p ++ a < p ++ b ↔ a < b := by
  induction p with
  | nil => exact Iff.rfl
  | cons x p ih => rw [List.cons_append, List.cons_append, List.cons_lt_cons_iff, ih]; simp [UInt8.lt_irrefl]
theorem below_hit {x y : Tx} {j : Nat} {c d : UInt8} (hx : x[j]? = some c) (hy : y[j]? = some d) (h : x.take j = y.take j) (hne : c ≠ d) : x < y ↔ c < d := by
  obtain ⟨lx, ex⟩ := List.getElem?_eq_some_iff.1 hx
  obtain ⟨ly, ey⟩ := List.getElem?_eq_some_iff.1 hy
  have e1 : x = y.take j ++ c :: x.drop (j + 1) := by
    rw [← h, ← ex, ← List.drop_eq_getElem_cons lx, List.take_append_drop]
  have e2 : y = y.take j ++ d :: y.drop (j + 1) := by
    rw [← ey, ← List.drop_eq_getElem_cons ly, List.take_append_drop]
  have e3 : (x < y) = (y.take j ++ c :: x.drop (j + 1) < y.take j ++ d :: y.drop (j + 1)) := by rw [← e1, ← e2]
  rw [e3, lt_app, List.cons_lt_cons_iff]
  simp [hne]
theorem below_end {x y : Tx} {j : Nat} (hx : j ≤ x.length) (hy : j ≤ y.length) (h : x.take j = y.take j) (he : j = x.length ∨ j = y.length) : x < y ↔ x.length < y.length := by
  have e3 : (x < y) = (y.take j ++ x.drop j < y.take j ++ y.drop j) := by rw [List.take_append_drop, ← h, List.take_append_drop]
  rw [e3, lt_app]
  rcases he with e | e
  · rw [List.drop_of_length_le (show x.length ≤ j by omega)]
    cases hd : y.drop j with
    | nil => have := congrArg List.length hd; simp at this; constructor
             · intro k; exact absurd k (List.lt_irrefl _)
             · intro k; omega
    | cons u v => have := congrArg List.length hd; simp at this; constructor
                  · intro _; omega
                  · intro _; exact List.nil_lt_cons u v
  · rw [List.drop_of_length_le (show y.length ≤ j by omega)]
    constructor
    · intro k; exact absurd k (List.not_lt_nil _)
    · intro k; omega
theorem get_bs (x : Tx) (j : Nat) (h : j < (bs x).size) : x[j]? = some (bs x)[j] := by
  have h2 : j < x.length := by rw [← bs_size]; exact h
  rw [List.getElem?_eq_getElem h2]
  simp [bs, ByteArray.getElem_eq_getElem_data]
theorem rbelow_any (x y : Tx) (w : World) (hx : x.length ≤ 9223372036854775807) (hy : y.length ≤ 9223372036854775807) :
    Calls Tryz.prog 73 #[.string (bs x), .string (bs y)] w fun e w' => e = .returned (.bool (decide (x < y))) ∧ Drew w w' := by
  obtain ⟨s, hs⟩ : ∃ s, s = bs x := ⟨_, rfl⟩
  obtain ⟨u, hu⟩ : ∃ u, u = bs y := ⟨_, rfl⟩
  have ex : s.size = x.length := by rw [hs, bs_size]
  have ey : u.size = y.length := by rw [hu, bs_size]
  have gx : Hid (∀ j (h : j < s.size), x[j]? = some s[j]) := hid (fun j h => by subst hs; exact get_bs x j h)
  have gy : Hid (∀ j (h : j < u.size), y[j]? = some u[j]) := hid (fun j h => by subst hu; exact get_bs y j h)
  rw [← hs, ← hu]
  clear hs hu
  obtain ⟨m, hm⟩ : ∃ m, s.size = m := ⟨_, rfl⟩
  obtain ⟨n, hn⟩ : ∃ n, u.size = n := ⟨_, rfl⟩
  have EX := hid (show x.length = m by omega)
  have EY := hid (show y.length = n by omega)
  have hm2 : m ≤ 9223372036854775807 := by omega
  have hn2 : n ≤ 9223372036854775807 := by omega
  clear ex ey hx hy
  go_enter Tryz.func73, Tryz.ntmps73
  go_wp2
  go_loopw [5] (fun i wr => ∃ j : Nat, j ≤ m ∧ j ≤ n ∧ i = .int .i64 (j : Int) ∧ Hid (x.take j = y.take j) ∧ Drew w wr) (fun i _ => m - (intOf i).toNat)
  case atStart => exact ⟨0, Nat.zero_le _, Nat.zero_le _, rfl, hid (by simp), 0, rfl⟩
  case round =>
    obtain ⟨j, hj, hj2, rfl, HT, hd⟩ := hrel
    by_cases hjm : j < m
    · by_cases hjn : j < n
      · have h1 : j < s.size := by omega
        have h2 : j < u.size := by omega
        have e1 := gx.out j h1
        have e2 := gy.out j h2
        by_cases he : s[j] = u[j]
        · have tb : ((s[j].toNat : Int) != (u[j].toNat : Int)) = false := by rw [bne_eq_false_iff_eq, he]
          have HN := hid (show x.take (j + 1) = y.take (j + 1) from by
            rw [List.take_add_one, List.take_add_one, HT.out, e1, e2, he])
          clear e1 e2 he HT
          go_wp2
          go_quiet (fail)
          go_wp2
          go_roundw
          case rel => exact ⟨j + 1, by omega, by omega, by go_num, HN, by obtain ⟨m, rfl⟩ := hd; first | exact ⟨_, World.drewN_drewN ..⟩ | exact ⟨m, rfl⟩⟩
          case measure => simp [intOf]; omega
        · have tb : ((s[j].toNat : Int) != (u[j].toNat : Int)) = true := by
            rw [bne_iff_ne]; intro e; exact he (UInt8.toNat_inj.1 (by omega))
          have HN := hid (show decide (x < y) = decide (s[j].toNat < u[j].toNat) from by
            rw [decide_eq_decide, ← UInt8.lt_iff_toNat_lt]
            exact below_hit e1 e2 HT.out he)
          clear e1 e2 he HT
          go_wp2
          go_quiet (fail)
          go_wp2
          go_quiet (fail)
          go_wp2
          go_ret
          exact ⟨ret_bool HN.out.symm, by obtain ⟨m, rfl⟩ := hd; exact ⟨_, by rw [World.drewN_drewN, World.drewN_drewN]⟩⟩
      · have HN := hid (show decide (x < y) = decide (m < n) from by
          rw [decide_eq_decide, below_end (j := j) (by rw [EX.out]; omega) (by rw [EY.out]; omega) HT.out (.inr (by rw [EY.out]; omega)), EX.out, EY.out])
        clear HT
        go_wp2
        go_ret
        exact ⟨ret_bool HN.out.symm, hd⟩
    · have HN := hid (show decide (x < y) = decide (m < n) from by
        rw [decide_eq_decide, below_end (j := j) (by rw [EX.out]; omega) (by rw [EY.out]; omega) HT.out (.inl (by rw [EX.out]; omega)), EX.out, EY.out])
      clear HT
      go_wp2
      go_ret
      exact ⟨ret_bool HN.out.symm, hd⟩
theorem quietD {f : FuncId} {args : Array Value} {w : World} {k : Nat} {v : Value} (h : Calls Tryz.prog f args (w.drewN k) fun e w' => e = .returned v ∧ Drew (w.drewN k) w') :
    Calls Tryz.prog f args (w.drewN k) fun e w' => e = .returned v ∧ ∃ m, w' = w.drewN m := h.mono fun _ _ p => ⟨p.1, by obtain ⟨m, e⟩ := p.2; exact ⟨_, by rw [e, World.drewN_drewN]⟩⟩
theorem Drew.bel {w w' : World} (h : Drew w w') : Below w.heap.size w w' := gb_below_none (h.gb none)
theorem Drew.trans {a b c : World} (h : Drew a b) (k : Drew b c) : Drew a c := by
  obtain ⟨m, rfl⟩ := h; obtain ⟨n, rfl⟩ := k; exact ⟨_, World.drewN_drewN ..⟩
def Sh (l : List Tx) : Prop := ∀ x ∈ l, x.length ≤ 9223372036854775807
theorem Sh.at_ {l : List Tx} (h : Sh l) (j : Nat) : (l.getD j []).length ≤ 9223372036854775807 := by
  by_cases hj : j < l.length
  · rw [getD_get hj]; exact h _ (List.getElem_mem hj)
  · rw [List.getD_eq_getElem?_getD, List.getElem?_eq_none (by omega)]; simp
theorem rright8_any (a : Option Addr) (n c : Nat) (l : List Tx) (w : World) (h : TxAt w a n c l) (hs : Sh l) :
    Calls Tryz.prog 26 #[.slice a n c] w fun e w' => e = .returned (.bool (decide (SS l))) ∧ Drew w w' := by
  have HL := hid h.1
  have hb := h.2.2.1
  have HS := hid h
  have HH := hid hs
  clear h hs
  go_enter Tryz.func26, Tryz.ntmps26
  go_wp2
  go_loopw [3] (fun i wr => ∃ j : Nat, (j + 1 ≤ n ∨ n = 0 ∧ j = 0) ∧ i = .int .i64 ((j + 1 : Nat) : Int) ∧ Hid (SS (l.take (j + 1))) ∧ Drew w wr) (fun i _ => n + 1 - (intOf i).toNat)
  case atStart => exact ⟨0, by omega, rfl, hid (ss_short (by simp; omega)), 0, rfl⟩
  case round =>
    obtain ⟨j, hj, rfl, HT, hd⟩ := hrel
    by_cases hjn : j + 1 < n
    · obtain ⟨p, o, rfl, hp, x0, x1⟩ := (HS.out.keep hd.bel).two j (j + 1) (by omega) hjn
      have HB := hid (fun W => rbelow_any (l.getD j []) (l.getD (j + 1) []) W (HH.out.at_ j) (HH.out.at_ (j + 1)))
      have hjz : ((j + 1 : Nat) : Int) - 1 = (j : Int) := by omega
      have hjw : IntKind.i64.wrap (j : Int) = (j : Int) := by rw [IntKind.wrap_i64]; omega
      by_cases he : l.getD j [] < l.getD (j + 1) []
      · have HN := hid (ss_snoc HT.out (by rw [HL.out]; exact hjn) he)
        rw [decide_eq_true he] at HB
        generalize bs (l.getD j []) = s at *
        generalize bs (l.getD (j + 1) []) = u at *
        clear he HT
        go_wp2
        go_quiet ((go_at_call 73; with_reducible exact quietD (HB.out _)))
        go_wp2
        go_roundw
        case rel => exact ⟨j + 1, by omega, by go_num, HN, hd.trans ⟨_, rfl⟩⟩
        case measure => simp [intOf]; omega
      · have HN := hid (ss_not (by rw [HL.out]; exact hjn) he)
        rw [decide_eq_false he] at HB
        generalize bs (l.getD j []) = s at *
        generalize bs (l.getD (j + 1) []) = u at *
        clear he HT
        go_wp2
        go_quiet ((go_at_call 73; with_reducible exact quietD (HB.out _)))
        go_wp2
        go_ret
        exact ⟨ret_bool (decide_eq_false HN.out).symm, hd.trans ⟨_, rfl⟩⟩
    · have HN := hid (show SS l from by have := HT.out; rwa [List.take_of_length_le (by rw [HL.out]; omega)] at this)
      have hlt : ¬ ((j + 1 : Nat) : Int) < (n : Int) := by omega
      go_wp2
      go_ret
      exact ⟨ret_bool (decide_eq_true HN.out).symm, hd⟩
theorem take_no {l : List Tx} {x : Tx} {j : Nat} (h : j < l.length) (h1 : x ∉ l.take j) (h2 : l.getD j [] ≠ x) : x ∉ l.take (j + 1) := by
  rw [List.take_succ_eq_append_getElem h]
  intro hm
  rcases List.mem_append.1 hm with hm | hm
  · exact h1 hm
  · rw [List.mem_singleton] at hm
    apply h2
    rw [getD_get h]; exact hm.symm
theorem getD_in {l : List Tx} {j : Nat} (h : j < l.length) : l.getD j [] ∈ l := by rw [getD_get h]; exact List.getElem_mem h
theorem rhas8_any (a : Option Addr) (n c : Nat) (l : List Tx) (x : Tx) (w : World) (h : TxAt w a n c l) :
    Calls Tryz.prog 27 #[.slice a n c, .string (bs x)] w fun e w' => e = .returned (.bool (decide (x ∈ l))) ∧ w = w' := by
  have HL := hid h.1
  have hb := h.2.2.1
  have HS := hid h
  clear h
  go_enter Tryz.func27, Tryz.ntmps27
  go_wp2
  go_loopw [5] (fun i wr => ∃ j : Nat, j ≤ n ∧ i = .int .i64 (j : Int) ∧ Hid (x ∉ l.take j) ∧ w = wr) (fun i _ => n - (intOf i).toNat)
  case atStart => exact ⟨0, Nat.zero_le _, rfl, hid (by simp), rfl⟩
  case round =>
    obtain ⟨j, hj, rfl, HT, rfl⟩ := hrel
    by_cases hjn : j < n
    · obtain ⟨p, o, rfl, hp, x0⟩ := HS.out.at_ j hjn
      have t1 := eq_bs (l.getD j []) x
      have HI := hid (getD_in (l := l) (j := j) (by rw [HL.out]; exact hjn))
      by_cases he : l.getD j [] = x
      · have HN := hid (show x ∈ l from by have := HI.out; rwa [he] at this)
        rw [decide_eq_true he] at t1
        generalize bs (l.getD j []) = s at *
        generalize bs x = u at *
        clear he HT HI
        go_wp2
        go_ret
        exact ⟨ret_bool (decide_eq_true HN.out).symm, rfl⟩
      · have HN := hid (take_no (by rw [HL.out]; exact hjn) HT.out he)
        rw [decide_eq_false he] at t1
        generalize bs (l.getD j []) = s at *
        generalize bs x = u at *
        clear he HT HI
        go_wp2
        go_roundw
        case rel => exact ⟨j + 1, by omega, by go_num, HN, by trivial⟩
        case measure => simp [intOf]; omega
    · have HN := hid (show x ∉ l from by have := HT.out; rwa [List.take_of_length_le (by rw [HL.out]; omega)] at this)
      obtain rfl : j = n := by omega
      go_wp2
      go_ret
      exact ⟨ret_bool (decide_eq_false HN.out).symm, rfl⟩
theorem same8_any (a : Option Addr) (n c : Nat) (l : List Tx) (a2 : Option Addr) (n2 c2 : Nat) (k : List Tx) (w : World) (h : TxAt w a n c l) (h2 : TxAt w a2 n2 c2 k) :
    Calls Tryz.prog 23 #[.slice a n c, .slice a2 n2 c2] w fun e w' => e = .returned (.bool (decide (l = k))) ∧ Drew w w' := by
  by_cases hn : n = n2
  · subst hn
    have HL := hid h.1
    have HL2 := hid h2.1
    have hb := h.2.2.1
    have HS := hid h
    have HS2 := hid h2
    clear h h2
    go_enter Tryz.func23, Tryz.ntmps23
    go_wp2
    go_loopw [5] (fun i wr => ∃ j : Nat, j ≤ n ∧ i = .int .i64 (j : Int) ∧ Hid (l.take j = k.take j) ∧ Drew w wr) (fun i _ => n - (intOf i).toNat)
    case atStart => exact ⟨0, Nat.zero_le _, rfl, hid (by simp), 0, rfl⟩
    case round =>
      obtain ⟨j, hj, rfl, HT, hd⟩ := hrel
      by_cases hjn : j < n
      · obtain ⟨m, rfl⟩ := hd
        obtain ⟨p, o, rfl, hp, x0⟩ := HS.out.at_ j hjn
        obtain ⟨p2, o2, rfl, hp2, x1⟩ := HS2.out.at_ j hjn
        have y0 : ∀ q, (w.drewN q).cell? ⟨p, o + j, none⟩ = _ := fun q => x0
        have y1 : ∀ q, (w.drewN q).cell? ⟨p2, o2 + j, none⟩ = _ := fun q => x1
        have t1 := eq_bs (l.getD j []) (k.getD j [])
        by_cases he : l.getD j [] = k.getD j []
        · have HN := hid (show l.take (j + 1) = k.take (j + 1) from by
            rw [getD_get (by rw [HL.out]; exact hjn), getD_get (by rw [HL2.out]; exact hjn)] at he
            rw [List.take_succ_eq_append_getElem (by rw [HL.out]; exact hjn), List.take_succ_eq_append_getElem (by rw [HL2.out]; exact hjn), HT.out, he])
          rw [decide_eq_true he] at t1
          generalize bs (l.getD j []) = s at *
          generalize bs (k.getD j []) = u at *
          clear he HT
          go_wp2
          go_quiet (fail)
          go_wp2
          go_roundw
          case rel => exact ⟨j + 1, by omega, by go_num, HN, by first | exact ⟨_, World.drewN_drewN ..⟩ | exact ⟨_, rfl⟩⟩
          case measure => simp [intOf]; omega
        · have HN := hid (show l ≠ k from fun e => he (by rw [e]))
          rw [decide_eq_false he] at t1
          generalize bs (l.getD j []) = s at *
          generalize bs (k.getD j []) = u at *
          clear he HT
          go_wp2
          go_quiet (fail)
          go_wp2
          go_ret
          exact ⟨ret_bool (decide_eq_false HN.out).symm, by first | exact ⟨_, World.drewN_drewN ..⟩ | exact ⟨_, rfl⟩⟩
      · have HN := hid (show l = k from by have := HT.out; rwa [List.take_of_length_le (by rw [HL.out]; omega), List.take_of_length_le (by rw [HL2.out]; omega)] at this)
        obtain rfl : j = n := by omega
        go_wp2
        go_ret
        exact ⟨ret_bool (decide_eq_true HN.out).symm, hd⟩
  · have tb : ((n : Int) != (n2 : Int)) = true := by rw [bne_iff_ne]; omega
    have HN := hid (show l ≠ k from fun e => hn (by rw [← h.1, ← h2.1, e]))
    clear h h2 hn
    go_enter Tryz.func23, Tryz.ntmps23
    go_wp2
    go_ret
    exact ⟨ret_bool (decide_eq_false HN.out).symm, 0, rfl⟩
def lightL (l : List Tx) : Prop := l.length ≤ 40 ∧ ∀ x ∈ l, x.length ≤ 100
instance (l : List Tx) : Decidable (lightL l) := inferInstanceAs (Decidable (_ ∧ _))
theorem TRow.mono {w : World} {base base' : Nat} {v : Value} {l : List Tx} (h : TRow w base v l) (hb : base' ≤ base) : TRow w base' v l := by
  refine ⟨h.1, ?_⟩
  rcases h.2 with e | ⟨g, cap, cur, rfl, hbg, r⟩
  · exact .inl e
  · exact .inr ⟨g, cap, cur, rfl, by omega, r⟩
theorem MadeE.from_ {w W w' : World} {l : List Tx} {e : Ending} (h : MadeE W l e w') (hb : Below w.heap.size w W) : MadeE w l e w' := by
  obtain ⟨v, rfl, h1, h2⟩ := h
  exact ⟨v, rfl, h1.mono hb.size, hb.trans (h2.mono hb.size)⟩
theorem enters_keysA : ∀ args w, (callFunc 202 args).run Tryz.prog w = .ok (.enter 202 args) w := enters_of Tryz.func202 (by kernel_rfl) rfl
theorem ikeys_made (w : World) (x bl bn : Nat) (ρ : Rho) (E : List Ent) (h : IxAt w x bl bn ρ E) (hE : E.length ≤ 100000) :
    Calls Tryz.prog 65 #[.pointer (some ⟨x, 0, none⟩)] w (MadeE w (keysL E)) := by
  obtain ⟨hc, rl, rn, ⟨T, t1, t2, t3⟩, hn, hok, hg⟩ := h
  have hss := hg.ss
  have hkp : (keysL (T.map mpV)).Perm (keysL E) := by
    rw [keysL_map mpV (fun _ => rfl), ← keysL_map mpL (fun _ => rfl)]
    exact t2.map Prod.fst
  have hTl : (T.map mpV).length = E.length := by have := t2.length_eq; simpa using this
  have B1 := (Below.refl w.heap.size w).alloc (Nat.le_refl _) (.cells #[mp bl] 168)
  have HS := hid (keysA_stops 2 (by omega) w.heap.size bl (T.map mpV) (w.alloc (.cells #[mp bl] 168)) (by simp) (by rw [cell_of (heap_new w _)]; rfl) (t1.keep B1))
  have HC := hid hc
  have HB := hid B1
  have HK := hid (fun (ss : List Tx) (hs : ss.Perm (keysL (T.map mpV))) => show canon ss = keysL E ∧ ss.length ≤ 100000 from ⟨canon_keys hss (hs.trans hkp), by rw [hs.length_eq]; unfold keysL; rw [List.length_map, hTl]; exact hE⟩)
  have c0 := hc.c0
  have hTL : (T.map mpV).length ≤ 1000000 := by omega
  clear t1 t2 t3 hn hok hg hc rl rn hkp B1 hss hTl
  generalize T.map mpV = L at *
  generalize keysL E = R at *
  go_enter Tryz.func65, Tryz.ntmps65
  go_wp2_with fail
  refine (iNone_no w x bl bn HC.out).mono ?_
  rintro e w' ⟨rfl, rfl⟩
  go_wp2_with fail
  refine (keysA_call _ _).mono ?_
  rintro e w1 ⟨rfl, rfl⟩
  go_wp2_with fail
  refine (collect_any _ _ enters_keysA _ _ _ HS.out hTL).mono ?_
  rintro e w2 ⟨a, c, ss, rfl, hs, t2, b2⟩
  obtain ⟨hk, hl⟩ := HK.out ss hs
  have HT := hid t2
  have B2 := hid (HB.out.trans (b2.mono HB.out.size))
  have HKK := hid hk
  clear hs t2 b2 hk HS HK HB
  generalize hq : ss.length = q at *
  go_wp2_with fail
  refine (of_any a q c ss w2 HT.out (by omega)).mono ?_
  intro e w3 hm
  rw [HKK.out] at hm
  have HM := hid (MadeE.from_ hm B2.out)
  obtain ⟨v, rfl, t3, b3⟩ := HM.out
  have T3 := hid t3
  have B3 := hid b3
  clear hm HM t3 b3
  go_wp2
  go_ret
  exact ⟨v, rfl, T3.out, B3.out⟩
theorem scopy_nil12 (w : World) : Calls Tryz.prog 61 #[.pointer none] w fun e w' => e = .returned (.pointer none) ∧ w = w' := by
  go_enter Tryz.func61, Tryz.ntmps61
  go_wp2_with fail
  refine (sNone_nil w).mono ?_
  rintro e w' ⟨rfl, rfl⟩
  go_wp2
  go_ret
  exact ⟨rfl, rfl⟩
theorem hSeries_no (w : World) (x : Nat) (m : Mem) (P : Spc) (k : Tx) (h : SpAt w x m P) (hk : ¬ P.has k) :
    Calls Tryz.prog 19 #[.pointer (some ⟨x, 0, none⟩), .string (bs k)] w fun e w' => e = .returned (.pointer none) ∧ Below w.heap.size w w' := by
  have HF := hid (hFind_no w x m P k h hk)
  clear h hk
  go_enter Tryz.func19, Tryz.ntmps19
  go_wp2_with fail
  refine HF.out.mono ?_
  rintro e w1 ⟨rfl, b1⟩
  have B1 := hid b1
  clear b1
  go_wp2_with fail
  refine (scopy_nil12 _).mono ?_
  rintro e w' ⟨rfl, rfl⟩
  go_wp2
  go_ret
  exact ⟨rfl, B1.out⟩
def SerP (sz : Int) (s : Ser) (w : World) (e : Ending) (w' : World) : Prop := ∃ o, e = .returned (.pointer (some ⟨o, 0, none⟩)) ∧ w.heap.size ≤ o ∧ SerAt w' o sz s ∧ Below w.heap.size w w'
theorem hSeries_ok (w : World) (x : Nat) (m : Mem) (P : Spc) (k : Tx) (h : SpAt w x m P) (hk : P.has k) (hn : (P.S k).z.length ≤ 100000) :
    Calls Tryz.prog 19 #[.pointer (some ⟨x, 0, none⟩), .string (bs k)] w (SerP (P.Z k) (P.S k) w) := by
  have HF := hid (hFind_ok w x m P k h hk)
  have HC := hid (fun W (q : SpAt W x m P) => copy_ser (m.B k) (P.Z k) (P.S k) W (q.ser k hk) (h.ok.siz k hk).1 hn)
  have H := hid h
  clear h hk
  go_enter Tryz.func19, Tryz.ntmps19
  go_wp2_with fail
  refine HF.out.mono ?_
  rintro e w1 ⟨rfl, b1⟩
  have H1 := hid (H.out.keep b1)
  have B1 := hid b1
  clear b1
  go_wp2_with fail
  refine (HC.out _ H1.out).mono ?_
  rintro e w2 ⟨o, rfl, ho, s2, b2⟩
  have S2 := hid s2
  have B2 := hid (B1.out.trans (b2.mono B1.out.size))
  have HO := hid (show w.heap.size ≤ o from Nat.le_trans B1.out.size ho)
  clear s2 b2 ho
  go_wp2
  go_ret
  exact ⟨o, rfl, HO.out, S2.out, B2.out⟩
theorem hKeys (w : World) (x : Nat) (m : Mem) (P : Spc) (h : SpAt w x m P) (hE : P.E.length ≤ 100000) :
    Calls Tryz.prog 20 #[.pointer (some ⟨x, 0, none⟩)] w (MadeE w (keysL P.E)) := by
  have HK := hid (ikeys_made w m.ix m.bl m.bn m.ρ P.E h.ix hE)
  have HC := hid h.cell
  have c1 := h.cell.c1
  clear h
  go_enter Tryz.func20, Tryz.ntmps20
  go_wp2_with fail
  refine (hNone_no w x m HC.out).mono ?_
  rintro e w' ⟨rfl, rfl⟩
  go_wp2_with fail
  refine HK.out.mono ?_
  intro e w2 hm
  obtain ⟨v, rfl, r, b⟩ := hm
  have R := hid r
  have B := hid b
  clear r b
  go_wp2
  go_ret
  exact ⟨v, rfl, R.out, B.out⟩
theorem hRules (w : World) (x : Nat) (m : Mem) (P : Spc) (h : SpAt w x m P) (hG : P.G.length ≤ 1000) :
    Calls Tryz.prog 12 #[.pointer (some ⟨x, 0, none⟩)] w fun e w' => ∃ v, e = .returned v ∧ URow 32 w' w.heap.size v P.G ∧ Below w.heap.size w w' := by
  have HK := hid (gall_ok w m.gx m.bi m.bf m.F P.G h.gr hG)
  have HC := hid h.cell
  have c2 := h.cell.c2
  clear h
  go_enter Tryz.func12, Tryz.ntmps12
  go_wp2_with fail
  refine (hNone_no w x m HC.out).mono ?_
  rintro e w' ⟨rfl, rfl⟩
  go_wp2_with fail
  refine HK.out.mono ?_
  rintro e w2 ⟨v, rfl, r, b⟩
  have R := hid r
  have B := hid b
  clear r b
  go_wp2
  go_ret
  exact ⟨v, rfl, R.out, B.out⟩
end Go.Proofs.YtmifpfojhlmbkaaGreat
