/-
  The statement 'SpaceKeys' of layer 12: keys are sorted; each rule's are there; a key that is dropped has no rules any more, and all others stay as they were.
  No condition on the arguments.
-/
import Derived.Test.YtmifpfojhlmbkaaGreatJ0
import Derived.Test.YtmifpfojhlmbkaaGreatJ1
import Derived.Test.YtmifpfojhlmbkaaGreatJ2
import Derived.Test.YtmifpfojhlmbkaaGreatJ3
import Derived.Test.YtmifpfojhlmbkaaGreatJ4
import Derived.Test.YtmifpfojhlmbkaaGreatJ5
import Derived.Test.YtmifpfojhlmbkaaGreatJ6
import Derived.Test.YtmifpfojhlmbkaaGreatJ7
import Derived.Test.YtmifpfojhlmbkaaGreatJ8
import Derived.Test.YtmifpfojhlmbkaaGreatJ9
import Derived.Test.YtmifpfojhlmbkaaGreatJ10
import Derived.Test.YtmifpfojhlmbkaaGreatJ11
import Derived.Test.YtmifpfojhlmbkaaGreatJ12
import Derived.Test.YtmifpfojhlmbkaaGreatJ13
import Derived.Test.YtmifpfojhlmbkaaGreatJ14
import Derived.Test.YtmifpfojhlmbkaaGreatJ15
import Derived.Test.YtmifpfojhlmbkaaGreatJ16
import Derived.Test.YtmifpfojhlmbkaaGreatJ17
import Derived.Test.YtmifpfojhlmbkaaGreatJ18
import Derived.Test.YtmifpfojhlmbkaaGreatJ19
import Derived.Test.YtmifpfojhlmbkaaGreatJ20
import Derived.Test.YtmifpfojhlmbkaaGreatJ21
import Derived.Test.YtmifpfojhlmbkaaGreatJ22
import Derived.Test.YtmifpfojhlmbkaaGreatJ23
import Derived.Test.YtmifpfojhlmbkaaGreatJ24
import Derived.Test.YtmifpfojhlmbkaaGreatJ25
import Derived.Test.YtmifpfojhlmbkaaGreatJ26
import Derived.Test.YtmifpfojhlmbkaaGreatJ27
import Derived.Test.YtmifpfojhlmbkaaGreatJ28
import Derived.Test.YtmifpfojhlmbkaaGreatJ29
import Derived.Test.YtmifpfojhlmbkaaGreatJ30
import Derived.Test.YtmifpfojhlmbkaaGreatJ31
import Derived.Test.YtmifpfojhlmbkaaGreatJ32
import Derived.Test.YtmifpfojhlmbkaaGreatJ33
import Derived.Test.YtmifpfojhlmbkaaGreatJ34
import Derived.Test.YtmifpfojhlmbkaaGreatJ35
import Derived.Test.YtmifpfojhlmbkaaGreatJ36
import Derived.Test.YtmifpfojhlmbkaaGreatJ37
import Derived.Test.YtmifpfojhlmbkaaGreatJ38
import Derived.Test.YtmifpfojhlmbkaaGreatJ39
import Derived.Test.YtmifpfojhlmbkaaGreatJ40
import Derived.Test.YtmifpfojhlmbkaaGreatJ41
import Derived.Test.YtmifpfojhlmbkaaGreatJ42
import Derived.Test.YtmifpfojhlmbkaaGreatJ43
import Derived.Test.YtmifpfojhlmbkaaGreatJ44
import Derived.Test.YtmifpfojhlmbkaaGreatJ45
import Derived.Test.YtmifpfojhlmbkaaGreatJ46
import Derived.Test.YtmifpfojhlmbkaaGreatJ47
import Derived.Test.YtmifpfojhlmbkaaGreatRows
import Derived.Deep.RegionHeld3
import Derived.ChangeOld
namespace Go.Proofs.YtmifpfojhlmbkaaGreat
open Lib (hid)
set_option maxRecDepth 100000
set_option maxHeartbeats 16000000
set_option linter.unusedVariables false
set_option linter.unusedSimpArgs false
def pickL (x y : List Tx) (t : Bool) : List Tx := canon (x.filter fun z => decide (z ∈ y) == t)
open Go.RowKit
theorem size_tx (W : World) : (sizeOf (Tryz.prog.elem 49)).run Tryz.prog W = .ok 1 W := by kernel_rfl
theorem TxAt.from_ {w : World} {a : Option Addr} {n c : Nat} {l : List Tx} (h : TxAt w a n c l) (k : Nat) (hk : k ≤ n) :
    ∃ a', (∀ W : World, (Instr.slice 49 (.slice a n c) (some (.int .i64 (k : Int))) none none).run Tryz.prog W = .ok (.slice a' (n - k) (c - k)) W) ∧ TxAt w a' (n - k) (c - k) (l.drop k) := by
  obtain ⟨h1, h2, h3, h5⟩ := h
  refine ⟨if c = k then a else a.map (·.add (k * 1)), fun W => ?_, by simp; omega, by omega, by omega, ?_⟩
  · rw [run_slice_l W 49 _ _ _ (by kernel_rfl) .i64 (k : Int) (by omega) (by omega), size_tx]
    simp [Result.andThen, sliced]
  · by_cases hz : n - k = 0
    · exact .inl hz
    · rcases h5 with h0 | ⟨b, off, rfl, hlt, hc⟩
      · omega
      · rw [if_neg (by omega)]
        refine .inr ⟨b, off + k, by simp [Addr.add], hlt, fun i hi => ?_⟩
        rw [show off + k + i = off + (k + i) from by omega, hc (k + i) (by omega), getD_get (by omega), getD_get (by simp; omega), List.getElem_drop]
theorem TRow.keep {w w' : World} {base : Nat} {v : Value} {l : List Tx} (h : TRow w base v l) (hb : Below w.heap.size w w') : TRow w' base v l := by
  refine ⟨h.1, ?_⟩
  rcases h.2 with e | ⟨g, cap, cur, rfl, hbg, hg, r⟩
  · exact .inl e
  · exact .inr ⟨g, cap, cur, rfl, hbg, by rw [hb.block g (heap_lt hg)]; exact hg, r⟩
theorem TRow.bel {w w' w0 : World} {B base : Nat} {v : Value} {l : List Tx} (hb : Below B w0 w) (hs : B ≤ w.heap.size) (hown : TRow w base v l) (hB : B ≤ base) (g : w.grownBy w' v.ownBlock) : Below B w0 w' :=
  hb.grown g hs (fun k hk => Nat.le_trans hB (World.ownsRow.lt hown k hk).1)
theorem TxAt.src {w : World} {a : Option Addr} {n c : Nat} {l : List Tx} (h : TxAt w a n c l) (ad : Addr) (e : a = some ad) : ∀ j u, (l.map tc)[j]? = some u → w.cell? (ad.add j) = some u := by
  intro j u hj
  rw [List.getElem?_map] at hj
  cases hb : l[j]? with
  | none => rw [hb] at hj; cases hj
  | some q =>
    rw [hb] at hj
    obtain ⟨hlt, hq⟩ := List.getElem?_eq_some_iff.1 hb
    obtain ⟨b, off, e', _, hc⟩ := h.at_ j (by rw [← h.1]; exact hlt)
    rw [e] at e'
    simp only [Option.some.injEq] at e'
    subst e'
    rw [show Addr.add ⟨b, off, none⟩ j = ⟨b, off + j, none⟩ from by simp [Addr.add], hc]
    rw [List.getD_eq_getElem?_getD, hb]
    exact hj
theorem TxAt.one (w : World) (x : Tx) : TxAt (w.alloc (.cells #[.string (bs x)] 9)) (some ⟨w.heap.size, 0, none⟩) 1 1 [x] :=
  ⟨rfl, Nat.le_refl _, by omega, .inr ⟨w.heap.size, 0, rfl, by simp, fun i hi => by
    obtain rfl : i = 0 := by omega
    rw [cell_of (heap_new w _)]; rfl⟩⟩
theorem wpList_append_tx {w : World} {ops : Array Oper} {rest : List Oper} {o : Oper} {a : Act} {Q : Exit → Act → World → Prop} (hw : Region.wanted o (yielded ops a.tmps) = true) (s x : Operand)
    (ho : o.op = .call { callee := .builtin .append, args := #[s, x], argTypes := #[49, 49] })
    (base : Nat) (v : Value) (l : List Tx) (hs : a.eval s = v) (hown : TRow w base v l)
    (ax : Option Addr) (m c : Nat) (k : List Tx) (hx : a.eval x = .slice ax m c) (hl : TxAt w ax m c k) (hb : l.length + m ≤ 1048576) (hbase : base ≤ w.heap.size)
    (h : ∀ v' w', TRow w' base v' (l ++ k) → w.grownBy w' v.ownBlock → wpList Tryz.prog ops Q rest (a.put o.dst v') w') : wpList Tryz.prog ops Q (o :: rest) a w := by
  obtain ⟨i0, hi, hz0, hz1, hz2⟩ := info_parts info_tx
  refine wpList_step fun K hK => ?_
  rw [if_pos hw]
  have hm := hl.1
  cases ax with
  | none =>
    have h0 : m = 0 := by
      rcases hl.2.2.2 with e | ⟨b, off, e, _⟩
      · exact e
      · cases e
    subst h0
    have e0 : k = [] := List.eq_nil_of_length_eq_zero hm
    subst e0
    have hrun := run_append_no (P := Tryz.prog) (w := w) base 49 o.type 9 i0 1 c Tryz.underlying49 hi v l.length _ hown
    unfold Oper.wp
    simp [execOp, ho, resolve, invoke, builtin, hs, hx, hrun, Result.andThen]
    refine hK _ _ (h v w ?_ (gb_refl _ _))
    simpa using hown
  | some ad =>
    refine wp_append_own w s x 49 ho base 9 i0 _ 1 16 Tryz.underlying49 hi hz0 hz1 hz2 rfl (by omega) v l.length _ hs hown ad m c (k.map tc) hx (by rw [List.length_map, hm]; omega) (hl.src ad rfl) (by intro u hu; obtain ⟨q, _, rfl⟩ := List.mem_map.1 hu; rfl) (by unfold maxLen; omega) (by omega) hbase ?_
    intro v' w' h2 h3 _
    refine hK _ _ (h v' w' ?_ h3)
    unfold TRow
    rw [List.length_append, List.map_append, hm]; exact h2
theorem HOwn.ts {base : Nat} {w0 w w' : World} {x : Nat} {m : Mem} {P : Spc} {G : Nat → Prop} (h : HOwn base w0 w x m P) (t : Ts G w w') (hG : ∀ i, G i → ¬ Own m P.E i) (hb : ∀ i, G i → base ≤ i) : HOwn base w0 w' x m P :=
  ⟨h.sp.ts t hG, h.xb, h.own, t.tu.below h.bel h.sz (fun i hi f => by have := hb i f; omega), Nat.le_trans h.sz t.size⟩
def SortP (w : World) (l : List Tx) (e : Ending) (w' : World) : Prop := ∃ a c, e = .returned (.slice a l.length c) ∧ TxAt w' a l.length c l ∧ Below w.heap.size w w'
theorem TxAt.len {w : World} {a : Option Addr} {n c : Nat} {l : List Tx} (h : TxAt w a n c l) : TxAt w a l.length c l := by
  have := h.1
  subst this; exact h
theorem all_in {s : Ser} (h : Std s) : s.z.filter (inB 0 1099511627776) = s.z := by
  rw [List.filter_eq_self]
  intro x hx
  have := h.time x hx
  unfold inB
  simp; omega
theorem TRow.alloc {w : World} {base : Nat} {v : Value} {l : List Tx} (h : TRow w base v l) (o : Obj) : TRow (w.alloc o) base v l := h.keep ((Below.refl _ _).alloc (Nat.le_refl _) o)
theorem insS_lt {x y : Tx} {l : List Tx} (h : y < x) : insTx x (y :: l) = y :: insTx x l := if_pos h
theorem insS_eq {y : Tx} {l : List Tx} : insTx y (y :: l) = y :: l := by rw [insTx, if_neg (lt_no y), if_pos rfl]
theorem insS_gt {x y : Tx} {l : List Tx} (h : ¬ y < x) (k : y ≠ x) : insTx x (y :: l) = x :: y :: l := by rw [insTx, if_neg h, if_neg k]
theorem drop_atE {l : List Tx} {j : Nat} (h : j < l.length) : l.drop j = l.getD j [] :: l.drop (j + 1) := by rw [getD_get h]; exact List.drop_eq_getElem_cons h
theorem radd8_any (a : Option Addr) (n c : Nat) (l : List Tx) (x : Tx) (w : World) (h : TxAt w a n c l) (hs : Sh l) (hx : x.length ≤ 9223372036854775807) (hl : n ≤ 1000000) :
    Calls Tryz.prog 74 #[.slice a n c, .string (bs x)] w (MadeE w (insTx x l)) := by
  have HA := hid h
  have HL := hid h.1
  have hm := h.2.2.1
  have HH := hid hs
  have HM0 := hid (show ([] : List Tx) ++ insTx x (l.drop 0) = insTx x l from rfl)
  clear h hs
  go_enter Tryz.func74, Tryz.ntmps74
  go_wp2_with fail
  go_loopw [5, 6] (fun vo vi wr => ∃ (j : Nat) (o : List Tx), vi = .int .i64 (j : Int) ∧ j ≤ n ∧ Hid (o.length = j) ∧ Hid (TRow wr w.heap.size vo o) ∧ Hid (Below w.heap.size w wr) ∧ Hid (o ++ insTx x (l.drop j) = insTx x l)) (fun _ vi _ => n - (intOf vi).toNat)
  case atStart => exact ⟨0, [], rfl, Nat.zero_le _, hid rfl, hid (TRow.nil _ _), hid (Below.refl _ _), HM0⟩
  case round =>
    obtain ⟨j, o, rfl, hj, HN, HO, HB, HM⟩ := hrel
    by_cases hjn : j < n
    · have hjz : (j : Int) < (n : Int) := by omega
      have T1 := HA.out.keep HB.out
      obtain ⟨pb, po, e1, hpb, x0⟩ := T1.at_ j hjn
      have HBL := hid (fun W => rbelow_any (l.getD j []) x W (HH.out.at_ j) hx)
      have HD := hid (drop_atE (l := l) (j := j) (by rw [HL.out]; exact hjn))
      subst e1
      clear T1
      by_cases he : l.getD j [] < x
      · have HN2 := hid (show (o ++ [l.getD j []]) ++ insTx x (l.drop (j + 1)) = insTx x l from by rw [← HM.out, HD.out, insS_lt he, List.append_assoc]; rfl)
        rw [decide_eq_true he] at HBL
        obtain ⟨y, hy⟩ : ∃ y, l.getD j [] = y := ⟨_, rfl⟩
        rw [hy] at HBL HN2 x0
        clear hy he HM HD
        go_wp2_with fail
        refine (HBL.out _).mono ?_
        rintro e W2 ⟨rfl, hd⟩
        have x1 : W2.cell? ⟨pb, po + j, none⟩ = some (.string (bs y)) := by rw [hd.bel.cell hpb]; exact x0
        have O1 := HO.out.keep hd.bel
        have B1 := bel_gbn HB.out HB.out.size (hd.gb none)
        have B0 := (Below.refl W2.heap.size W2).alloc (Nat.le_refl _) (.cells #[.string (bs y)] 9)
        have HO2 := hid (O1.alloc (.cells #[.string (bs y)] 9))
        have HT2 := hid (TxAt.one W2 y)
        have HB2 := hid (B1.trans (B0.mono B1.size))
        clear B0
        clear O1 B1 x0 HO HB hd HBL
        generalize bs y = sp at *
        go_wp2_with (at_builtin; refine wpList_append_tx rfl _ _ rfl w.heap.size _ o rfl HO2.out _ 1 1 [y] rfl HT2.out (by rw [HN.out]; omega) HB2.out.size ?_)
        intro v3 W3 O3 g3
        have B3 := TRow.bel HB2.out HB2.out.size HO2.out (Nat.le_refl _) g3
        clear HO2 HB2 HT2 g3
        go_wp2
        go_roundw
        case rel => exact ⟨j + 1, _, by go_num, by omega, hid (by rw [List.length_append, HN.out]; rfl), hid O3, hid B3, HN2⟩
        case measure => simp [intOf]; omega
      · have x00 : w.cell? ⟨pb, po + j, none⟩ = some (.string (bs (l.getD j []))) := by
          obtain ⟨pb', po', e2, hpb', x00⟩ := HA.out.at_ j hjn
          simp only [Option.some.injEq, Addr.mk.injEq] at e2
          obtain ⟨rfl, rfl, _⟩ := e2
          exact x00
        have hpw : pb < w.heap.size := by
          obtain ⟨pb', po', e2, hpb', _⟩ := HA.out.at_ j hjn
          simp only [Option.some.injEq, Addr.mk.injEq] at e2
          obtain ⟨rfl, rfl, _⟩ := e2
          exact hpb'
        by_cases ke : l.getD j [] = x
        · have HN2 := hid (show (o ++ [x]) ++ l.drop (j + 1) = insTx x l from by rw [← HM.out, HD.out, ke, insS_eq, List.append_assoc]; rfl)
          have t1 := eq_bs (l.getD j []) x
          rw [decide_eq_true ke] at t1
          rw [decide_eq_false he] at HBL
          obtain ⟨a3, hs3, T3⟩ := HA.out.from_ (j + 1) (by omega)
          have HT3 := hid T3
          clear ke he HM HD T3
          generalize bs (l.getD j []) = sy at *
          go_wp2_with fail
          refine (HBL.out _).mono ?_
          rintro e W2 ⟨rfl, hd⟩
          have O1 := HO.out.keep hd.bel
          have B1 := bel_gbn HB.out HB.out.size (hd.gb none)
          have B0 := (Below.refl W2.heap.size W2).alloc (Nat.le_refl _) (.cells #[.string (bs x)] 9)
          have HO2 := hid (O1.alloc (.cells #[.string (bs x)] 9))
          have HT2 := hid (TxAt.one W2 x)
          have HB2 := hid (B1.trans (B0.mono B1.size))
          clear B0
          have x1 : ∀ W3, Below w.heap.size w W3 → W3.cell? ⟨pb, po + j, none⟩ = some (.string sy) := fun W3 b3 => by rw [b3.cell hpw]; exact x00
          clear O1 B1 HO HB hd HBL
          obtain ⟨sx, hsx⟩ : ∃ sx, bs x = sx := ⟨_, rfl⟩
          rw [hsx] at HT2 HO2 HB2 t1 ⊢
          go_wp2_with (at_builtin; refine wpList_append_tx rfl _ _ rfl w.heap.size _ o rfl HO2.out _ 1 1 [x] rfl HT2.out (by rw [HN.out]; omega) HB2.out.size ?_)
          intro v3 W3 O3 g3
          have B3 := TRow.bel HB2.out HB2.out.size HO2.out (Nat.le_refl _) g3
          have y1 := x1 W3 B3
          have HT4 := hid (HT3.out.keep B3)
          have HO4 := hid O3
          have HB4 := hid B3
          clear HO2 HB2 HT2 g3 O3 B3 x1
          have hs4 : ∀ W : World, (Instr.slice 49 (.slice (some ⟨pb, po, none⟩) n c) (some (.int .i64 ((j : Int) + 1))) none none).run Tryz.prog W = .ok (.slice a3 (n - (j + 1)) (c - (j + 1))) W := hs3
          clear hs3
          go_wp2_with (at_builtin; refine wpList_append_tx rfl _ _ rfl w.heap.size _ (o ++ [x]) rfl HO4.out _ _ _ _ rfl HT4.out (by rw [List.length_append, HN.out]; simp only [List.length_singleton]; omega) HB4.out.size ?_)
          intro v5 W5 O5 g5
          have B5 := TRow.bel HB4.out HB4.out.size HO4.out (Nat.le_refl _) g5
          replace O5 : TRow W5 w.heap.size v5 (insTx x l) := by rw [← HN2.out, List.append_assoc]; exact O5
          clear HO4 HB4 g5
          go_wp2
          go_ret
          exact ⟨v5, rfl, O5, B5⟩
        · have HN2 := hid (show (o ++ [x]) ++ l.drop j = insTx x l from by rw [← HM.out, HD.out, insS_gt he ke, List.append_assoc]; rfl)
          have t1 := eq_bs (l.getD j []) x
          rw [decide_eq_false ke] at t1
          rw [decide_eq_false he] at HBL
          obtain ⟨a3, hs3, T3⟩ := HA.out.from_ (j) (by omega)
          have HT3 := hid T3
          clear ke he HM HD T3
          generalize bs (l.getD j []) = sy at *
          go_wp2_with fail
          refine (HBL.out _).mono ?_
          rintro e W2 ⟨rfl, hd⟩
          have O1 := HO.out.keep hd.bel
          have B1 := bel_gbn HB.out HB.out.size (hd.gb none)
          have B0 := (Below.refl W2.heap.size W2).alloc (Nat.le_refl _) (.cells #[.string (bs x)] 9)
          have HO2 := hid (O1.alloc (.cells #[.string (bs x)] 9))
          have HT2 := hid (TxAt.one W2 x)
          have HB2 := hid (B1.trans (B0.mono B1.size))
          clear B0
          have x1 : ∀ W3, Below w.heap.size w W3 → W3.cell? ⟨pb, po + j, none⟩ = some (.string sy) := fun W3 b3 => by rw [b3.cell hpw]; exact x00
          clear O1 B1 HO HB hd HBL
          obtain ⟨sx, hsx⟩ : ∃ sx, bs x = sx := ⟨_, rfl⟩
          rw [hsx] at HT2 HO2 HB2 t1 ⊢
          go_wp2_with (at_builtin; refine wpList_append_tx rfl _ _ rfl w.heap.size _ o rfl HO2.out _ 1 1 [x] rfl HT2.out (by rw [HN.out]; omega) HB2.out.size ?_)
          intro v3 W3 O3 g3
          have B3 := TRow.bel HB2.out HB2.out.size HO2.out (Nat.le_refl _) g3
          have y1 := x1 W3 B3
          have HT4 := hid (HT3.out.keep B3)
          have HO4 := hid O3
          have HB4 := hid B3
          clear HO2 HB2 HT2 g3 O3 B3 x1
          have hs4 := hs3
          clear hs3
          go_wp2_with (at_builtin; refine wpList_append_tx rfl _ _ rfl w.heap.size _ (o ++ [x]) rfl HO4.out _ _ _ _ rfl HT4.out (by rw [List.length_append, HN.out]; simp only [List.length_singleton]; omega) HB4.out.size ?_)
          intro v5 W5 O5 g5
          have B5 := TRow.bel HB4.out HB4.out.size HO4.out (Nat.le_refl _) g5
          replace O5 : TRow W5 w.heap.size v5 (insTx x l) := by rw [← HN2.out, List.append_assoc]; exact O5
          clear HO4 HB4 g5
          go_wp2
          go_ret
          exact ⟨v5, rfl, O5, B5⟩
    · obtain rfl : j = n := by omega
      have HN2 := hid (show (o ++ [x]) ++ l.drop j = insTx x l from by rw [← HM.out, List.drop_of_length_le (by rw [HL.out]; exact Nat.le_refl _)]; simp [insTx])
      obtain ⟨a3, hs3, T3⟩ := HA.out.from_ j (Nat.le_refl _)
      obtain ⟨r0, hr0⟩ : ∃ r0, j - j = r0 := ⟨_, rfl⟩
      have HR0 := hid (show r0 ≤ 1 by omega)
      rw [hr0] at hs3 T3
      have HT3 := hid T3
      clear hr0
      have O1 := HO.out
      have B1 := HB.out
      clear HM T3
      have B0 := (Below.refl wr.heap.size wr).alloc (Nat.le_refl _) (.cells #[.string (bs x)] 9)
      have HO2 := hid (O1.alloc (.cells #[.string (bs x)] 9))
      have HT2 := hid (TxAt.one wr x)
      have HB2 := hid (B1.trans (B0.mono B1.size))
      clear B0
      clear O1 B1 HO HB
      obtain ⟨sx, hsx⟩ : ∃ sx, bs x = sx := ⟨_, rfl⟩
      rw [hsx] at HT2 HO2 HB2 ⊢
      go_wp2_with (at_builtin; refine wpList_append_tx rfl _ _ rfl w.heap.size _ o rfl HO2.out _ 1 1 [x] rfl HT2.out (by rw [HN.out]; omega) HB2.out.size ?_)
      intro v3 W3 O3 g3
      have B3 := TRow.bel HB2.out HB2.out.size HO2.out (Nat.le_refl _) g3
      have HT4 := hid (HT3.out.keep B3)
      have HO4 := hid O3
      have HB4 := hid B3
      clear HO2 HB2 HT2 g3 O3 B3
      go_wp2_with (at_builtin; refine wpList_append_tx rfl _ _ rfl w.heap.size _ (o ++ [x]) rfl HO4.out _ _ _ _ rfl HT4.out (by rw [List.length_append, HN.out]; simp only [List.length_singleton]; have := HR0.out; omega) HB4.out.size ?_)
      intro v5 W5 O5 g5
      have B5 := TRow.bel HB4.out HB4.out.size HO4.out (Nat.le_refl _) g5
      replace O5 : TRow W5 w.heap.size v5 (insTx x l) := by rw [← HN2.out, List.append_assoc]; exact O5
      clear HO4 HB4 g5
      go_wp2
      go_ret
      exact ⟨v5, rfl, O5, B5⟩
theorem Sh.canon {l : List Tx} (h : Sh l) : Sh (canon l) := fun x hx => h x (mem_canon.1 hx)
theorem Sh.take {l : List Tx} (h : Sh l) (j : Nat) : Sh (l.take j) := fun x hx => h x (List.mem_of_mem_take hx)
theorem Sh.filter {l : List Tx} (h : Sh l) (p : Tx → Bool) : Sh (l.filter p) := fun x hx => h x (List.mem_filter.1 hx).1
theorem pick_take {l y : List Tx} {t : Bool} {j : Nat} (h : j < l.length) (k : (decide (l.getD j [] ∈ y) == t) = true) : insTx (l.getD j []) (pickL (l.take j) y t) = pickL (l.take (j + 1)) y t := by
  unfold pickL
  rw [List.take_succ_eq_append_getElem h, ← getD_get h, List.filter_append, List.filter_cons_of_pos (p := fun z => decide (z ∈ y) == t) k]
  exact ss_ext (insS_ss (canon_ss _)) (canon_ss _) (fun z => by rw [mem_insS, mem_canon, mem_canon, List.mem_append, List.filter_nil, List.mem_singleton]; exact or_comm)
theorem pick_pass {l y : List Tx} {t : Bool} {j : Nat} (h : j < l.length) (k : (decide (l.getD j [] ∈ y) == t) = false) : pickL (l.take j) y t = pickL (l.take (j + 1)) y t := by
  unfold pickL
  rw [List.take_succ_eq_append_getElem h, ← getD_get h, List.filter_append, List.filter_cons_of_neg (p := fun z => decide (z ∈ y) == t) (by rw [k]; simp), List.filter_nil, List.append_nil]
theorem pick_len (l y : List Tx) (t : Bool) : (pickL l y t).length ≤ l.length := Nat.le_trans (canon_len _) (List.length_filter_le _ _)
theorem rpick8_any (a : Option Addr) (n c : Nat) (l : List Tx) (a2 : Option Addr) (n2 c2 : Nat) (y : List Tx) (t : Bool) (w : World) (h : TxAt w a n c l) (h2 : TxAt w a2 n2 c2 y) (hs : Sh l) (hl : n ≤ 1000000) :
    Calls Tryz.prog 28 #[.slice a n c, .slice a2 n2 c2, .bool t] w (SortP w (pickL l y t)) := by
  have HA := hid h
  have HA2 := hid h2
  have HL := hid h.1
  have hm := h.2.2.1
  have HH := hid hs
  clear h hs h2
  go_enter Tryz.func28, Tryz.ntmps28
  go_wp2_with fail
  go_loopw [7, 8] (fun vo vi wr => ∃ (j : Nat) (b : Option Addr) (m d : Nat) (o : List Tx), vo = .slice b m d ∧ vi = .int .i64 (j : Int) ∧ j ≤ n ∧ Hid (o = pickL (l.take j) y t) ∧ Hid (TxAt wr b m d o) ∧ Hid (Below w.heap.size w wr)) (fun _ vi _ => n - (intOf vi).toNat)
  case atStart => exact ⟨0, none, 0, 0, [], rfl, rfl, Nat.zero_le _, hid rfl, hid (TxAt.nil _ _ _), hid (Below.refl _ _)⟩
  case round =>
    obtain ⟨j, b, m, d, o, rfl, rfl, hj, HO, HT, HB⟩ := hrel
    by_cases hjn : j < n
    · obtain ⟨pb, po, rfl, hpb, x0⟩ := (HA.out.keep HB.out).at_ j hjn
      have hm1 : m ≤ 1000000 := by
        have h1 := HT.out.1
        have h2 := pick_len (l.take j) y t
        rw [← HO.out, List.length_take] at h2
        omega
      have HHas := hid (rhas8_any a2 n2 c2 y (l.getD j []) wr (HA2.out.keep HB.out))
      cases hk : (decide (l.getD j [] ∈ y) == t)
      · have HN := hid (show o = pickL (l.take (j + 1)) y t from by rw [HO.out]; exact pick_pass (by rw [HL.out]; exact hjn) hk)
        generalize decide (l.getD j [] ∈ y) = r at *
        generalize bs (l.getD j []) = s at *
        clear HO
        go_wp2_with fail
        refine HHas.out.mono ?_
        rintro e W2 ⟨rfl, rfl⟩
        go_wp2
        go_roundw
        case rel => exact ⟨j + 1, b, m, d, o, rfl, by go_num, by omega, HN, HT, HB⟩
        case measure => simp [intOf]; omega
      · have HC := hid (radd8_any b m d o (l.getD j []) wr HT.out (by rw [HO.out]; exact ((HH.out.take j).filter _).canon) (HH.out.at_ j) hm1)
        have HN := hid (show insTx (l.getD j []) o = pickL (l.take (j + 1)) y t from by rw [HO.out]; exact pick_take (by rw [HL.out]; exact hjn) hk)
        generalize decide (l.getD j [] ∈ y) = r at *
        generalize insTx (l.getD j []) o = o2 at *
        generalize bs (l.getD j []) = s at *
        clear HO
        go_wp2_with fail
        refine HHas.out.mono ?_
        rintro e W2 ⟨rfl, rfl⟩
        go_wp2_with fail
        refine HC.out.mono ?_
        intro e W2 hmd
        obtain ⟨b2, d2, rfl, T2, B2⟩ := hmd.to
        replace T2 := hid T2
        have HB2 := hid (HB.out.trans (B2.mono HB.out.size))
        generalize o2.length = m2 at *
        clear hmd B2 HC
        go_wp2
        go_roundw
        case rel => exact ⟨j + 1, b2, m2, d2, o2, rfl, by go_num, by omega, HN, T2, HB2⟩
        case measure => simp [intOf]; omega
    · have HN := hid (show o = pickL l y t from by have := HO.out; rwa [List.take_of_length_le (by rw [HL.out]; omega)] at this)
      have HF := hid (show SortP w (pickL l y t) (.returned (.slice b m d)) wr from by rw [← HN.out]; exact ⟨b, d, by rw [HT.out.1], HT.out.len, HB.out⟩)
      obtain rfl : j = n := by omega
      go_wp2
      go_ret
      exact HF.out
end Go.Proofs.YtmifpfojhlmbkaaGreat
namespace Go.Proofs.YtmifpfojhlmbkaaGreat
set_option maxRecDepth 100000
set_option maxHeartbeats 16000000
namespace spaceKeys
open Go.ChangeShapes Go.WideShapes Go.ChangeAt Go.RowKit
open Go.ChangeMaps (open_string shut_string)
set_option linter.unusedVariables false
set_option linter.unusedSimpArgs false
theorem own : ownKnob Tryz.prog.godebug = none := by kernel_rfl
theorem gone_keys {P : Spc} (hP : Ok12 P) {k : Tx} (h : Ok12 (goSp P k)) : keysL (goSp P k).E = pickL (keysL P.E) [k] false :=
  ss_ext h.gE.ss (canon_ss _) (fun j => by
    unfold pickL
    rw [mem_canon, List.mem_filter]
    show j ∈ keysL (dels P.E k) ↔ _
    rw [keys_dels]
    simp)
theorem walk (a : Option Addr) (len cap : Nat) (z : List Op12) (kb : ByteArray) (w : World) (h : Ops12 w a len cap z) (_ : kb.size ≤ maxLen) :
    Calls Tryz.prog 5 #[.slice a len cap, .string kb] w fun e w' => e = .returned (.bool true) ∧ Below w.heap.size w w' := by
  obtain ⟨k, rfl⟩ : ∃ k, kb = bs k := ⟨tx kb, (bs_tx _).symm⟩
  have HO := Lib.hid h
  clear h
  go_enter Tryz.func5, Tryz.ntmps5
  go_wp2_with fail
  refine (build12_any a len cap z w HO.out).mono ?_
  rintro e W2 ⟨x, m, P, rfl, X2, hf, hm⟩
  have X := Lib.hid X2
  have HF := Lib.hid (hf.mono (k := 900) (by omega))
  clear X2 hf hm HO
  by_cases h100 : 100 < (bs k).size
  · have h100z : (100 : Int) < ((bs k).size : Int) := by omega
    go_wp2_with fail
    refine (known12_any _).mono ?_
    rintro e WE ⟨rfl, bE⟩
    have XE := Lib.hid (X.out.keep bE).bel
    go_wp2
    go_ret
    exact ⟨rfl, XE.out⟩
  have h100z : ¬ (100 : Int) < ((bs k).size : Int) := by omega
  have HP := Lib.hid X.out.sp.ok
  have HSO := Lib.hid (fun W (u : SpAt W x m P) q (hk : P.has q) => hSeries_ok W x m P q u hk (Nat.le_trans (HF.out.z q hk) (by omega)))
  go_wp2_with fail
  refine (hRules W2 x m P X.out.sp (Nat.le_trans HF.out.g (by omega))).mono ?_
  rintro e W3 ⟨v3, rfl, r3, b3⟩
  obtain ⟨a3, c3, e3, hr3, _⟩ := r3.shape
  subst e3
  replace X := Lib.hid (X.out.keep b3)
  have R3 := Lib.hid hr3
  clear r3 hr3 b3
  obtain ⟨n3, hn3⟩ : ∃ n3, P.G.length = n3 := ⟨_, rfl⟩
  have HN3 := Lib.hid hn3
  have hg3 := HF.out.g
  rw [hn3] at R3 hg3 ⊢
  clear hn3
  go_wp2
  go_loopw [7] (fun i wr => ∃ j : Nat, j ≤ n3 ∧ i = .int .i64 (j : Int) ∧ Hid (HOwn w.heap.size w wr x m P) ∧ Hid (RuAt wr a3 n3 c3 P.G)) (fun i _ => n3 - (intOf i).toNat)
  case atStart => exact ⟨0, Nat.zero_le _, rfl, X, R3⟩
  case round =>
    obtain ⟨j, hj, rfl, XR, RR⟩ := hrel
    clear X R3
    by_cases hjn : j < n3
    · have hjz : (j : Int) < (n3 : Int) := by omega
      have hj0 : (0 : Int) ≤ (j : Int) := by omega
      obtain ⟨b, off, rfl, hb, u0, u1, u2, u3, u4⟩ := RR.out.at_ j hjn
      have HE := Lib.hid (HP.out.ends _ (uA_mem (l := P.G) (i := j) (by rw [HN3.out]; exact hjn)))
      generalize uA P.G j = r at *
      clear u2 u3 u4
      go_wp2_with fail
      refine (HSO.out _ XR.out.sp r.src HE.out.1).mono ?_
      rintro e V1 ⟨o1, rfl, _, _, b1⟩
      have X1 := Lib.hid (XR.out.keep b1)
      have R1 := Lib.hid (RR.out.keep b1)
      have v1 := (b1.cell (p := ⟨b, off + j * 5 + 1, none⟩) hb).trans u1
      clear XR RR b1 u0 u1 hb
      go_wp2_with fail
      refine (HSO.out _ X1.out.sp r.dst HE.out.2).mono ?_
      rintro e V2 ⟨o2, rfl, _, _, b2⟩
      have X2 := Lib.hid (X1.out.keep b2)
      have R2 := Lib.hid (R1.out.keep b2)
      clear X1 R1 b2 v1
      go_wp2
      go_roundw
      case rel => exact ⟨j + 1, by omega, by go_num, X2, R2⟩
      case measure => simp [intOf]; omega
    · have hjz : ¬ (j : Int) < (n3 : Int) := by omega
      clear RR HN3 hg3
      have X := XR
      clear XR
      go_wp2_with fail
      refine (hKeys wr x m P X.out.sp (Nat.le_trans HF.out.e (by omega))).mono ?_
      rintro e W5 ⟨v5, rfl, r5, b5⟩
      replace X := Lib.hid (X.out.keep b5)
      have R5 := Lib.hid r5
      clear r5 b5
      go_wp2_with fail
      refine (hCopy W5 x m P X.out.sp (HF.out.mono (by omega))).mono ?_
      rintro e W6 ⟨y, my, rfl, y3, b3, hy3, hyo⟩
      have Y6 := Lib.hid (HOwn.new X.out.bel X.out.sz y3 b3 hy3 hyo)
      have HAP : Hid (∀ i, Own m P.E i → ¬ Own my P.E i) := Lib.hid (fun i f g => by have h1 := X.out.sp.lt f; have h2 := hyo i g; omega)
      replace X := Lib.hid (X.out.keep b3)
      have R6 := Lib.hid (R5.out.keep b3)
      clear y3 b3 hy3 hyo R5
      go_wp2_with fail
      refine (oDrop X.out k HF.out).mono ?_
      rintro e W7 ⟨rfl, m', oo, tt⟩
      have Y := Lib.hid (Y6.out.ts tt HAP.out X.out.own)
      have R7 := Lib.hid (R6.out.ts12 tt)
      obtain ⟨a7, c7, e7, hr7⟩ := R7.out.shape
      have K7 := Lib.hid hr7
      have HGK := Lib.hid (gone_keys HP.out oo.sp.ok)
      replace X := Lib.hid oo
      have HF7 : Hid (Few 900 (goSp P k)) := Lib.hid ⟨Nat.le_trans (dels_len P.E k) HF.out.e, Nat.le_trans (List.length_filter_le _ _) HF.out.g, fun j hj => HF.out.z j (keys_dels.1 hj).1⟩
      have HNK : Hid (¬ (goSp P k).has k) := Lib.hid (fun q => (keys_dels.1 q).2 rfl)
      have HST : Hid (∀ q, P.has q → q ≠ k → (goSp P k).has q ∧ (goSp P k).S q = P.S q) := Lib.hid (fun q hq hn => ⟨keys_dels.2 ⟨hq, hn⟩, rfl⟩)
      have HGO : Hid (∀ r ∈ (goSp P k).G, r.src ≠ k ∧ r.dst ≠ k) := Lib.hid (fun r hr => (mem_goneL.1 hr).2)
      subst e7
      clear oo tt Y6 hr7 R6 R7 HAP
      obtain ⟨hb, hhb⟩ : ∃ hb, decide (P.has k) = hb := ⟨_, rfl⟩
      have HHB := Lib.hid hhb
      rw [hhb]
      clear hhb
      generalize goSp P k = P' at *
      obtain ⟨n7, hn7⟩ : ∃ n7, (keysL P.E).length = n7 := ⟨_, rfl⟩
      have HN7 := Lib.hid hn7
      have hn7b : n7 ≤ 900 := by have h1 := HF.out.e; have h2 := hn7; unfold keysL at h2; rw [List.length_map] at h2; omega
      rw [hn7] at K7 ⊢
      clear hn7
      go_wp2_with fail
      refine (hRules W7 x m' P' X.out.sp (Nat.le_trans HF7.out.g (by omega))).mono ?_
      rintro e W8 ⟨v8, rfl, r8, b8⟩
      obtain ⟨a8, c8, e8, hr8, _⟩ := r8.shape
      subst e8
      replace X := Lib.hid (X.out.keep b8)
      replace Y := Lib.hid (Y.out.keep b8)
      have K8 := Lib.hid (K7.out.keep b8)
      have R8 := Lib.hid hr8
      clear r8 hr8 b8 K7
      obtain ⟨n8, hn8⟩ : ∃ n8, P'.G.length = n8 := ⟨_, rfl⟩
      have HN8 := Lib.hid hn8
      have hg8 := HF7.out.g
      rw [hn8] at R8 hg8 ⊢
      clear hn8
      go_wp2
      go_loopw [12] (fun i wr => ∃ j : Nat, j ≤ n8 ∧ i = .int .i64 (j : Int) ∧ W8 = wr) (fun i _ => n8 - (intOf i).toNat)
      case atStart => exact ⟨0, Nat.zero_le _, rfl, rfl⟩
      case round =>
        obtain ⟨j, hj, rfl, rfl⟩ := hrel
        by_cases hjn : j < n8
        · have hjz : (j : Int) < (n8 : Int) := by omega
          have hj0 : (0 : Int) ≤ (j : Int) := by omega
          obtain ⟨b, off, rfl, hb', u0, u1, u2, u3, u4⟩ := R8.out.at_ j hjn
          have HG := HGO.out _ (uA_mem (l := P'.G) (i := j) (by rw [HN8.out]; exact hjn))
          generalize uA P'.G j = r at *
          have q1 := eq_bs r.src k
          have q2 := eq_bs r.dst k
          rw [decide_eq_false HG.1] at q1
          rw [decide_eq_false HG.2] at q2
          clear u2 u3 u4 HG
          go_wp2
          go_roundw
          case rel => exact ⟨j + 1, by omega, by go_num, by first | rfl | trivial⟩
          case measure => simp [intOf]; omega
        · have hjz : ¬ (j : Int) < (n8 : Int) := by omega
          clear R8 HN8 hg8 HGO
          go_wp2
          go_loopw [13] (fun i wr => ∃ j : Nat, j ≤ n7 ∧ i = .int .i64 (j : Int) ∧ Hid (HOwn w.heap.size w wr x m' P') ∧ Hid (HOwn w.heap.size w wr y my P) ∧ Hid (TxAt wr a7 n7 c7 (keysL P.E))) (fun i _ => n7 - (intOf i).toNat)
          case atStart => exact ⟨0, Nat.zero_le _, rfl, X, Y, K8⟩
          case round =>
            clear hjz hjn hj X Y K8
            obtain ⟨j, hj, rfl, XR, YR, KR⟩ := hrel
            by_cases hjn : j < n7
            · have hjz : (j : Int) < (n7 : Int) := by omega
              have hj0 : (0 : Int) ≤ (j : Int) := by omega
              obtain ⟨kb, ko, ek, hkb, c1⟩ := KR.out.at_ j hjn
              subst ek
              have HKp : Hid (P.has ((keysL P.E).getD j [])) := Lib.hid (by
                show _ ∈ keysL P.E
                rw [getD_get (by rw [HN7.out]; exact hjn)]; exact List.getElem_mem _)
              generalize (keysL P.E).getD j [] = q at *
              have hqq := eq_bs q k
              have X1 := XR
              have Y1 := YR
              have K1 := KR
              clear XR YR KR hkb
              generalize wr = V1 at *
              by_cases hqk : q = k
              · rw [decide_eq_true hqk] at hqq
                clear hqk
                go_wp2_with fail
                go_quiet (fail)
                have hd := (show Drew V1 (V1.drewN nq) from ⟨nq, rfl⟩).below
                have X7 := Lib.hid (X1.out.keep hd)
                have Y7 := Lib.hid (Y1.out.keep hd)
                have KT5 := Lib.hid (K1.out.keep hd)
                generalize V1.drewN nq = V7 at *
                clear hd X1 Y1 c1
                go_wp2
                go_roundw
                case rel => exact ⟨j + 1, by omega, by go_num, X7, Y7, KT5⟩
                case measure => simp [intOf]; omega
              · rw [decide_eq_false hqk] at hqq
                have HKq := Lib.hid (HST.out q HKp.out hqk).1
                have hE := (HST.out q HKp.out hqk).2
                obtain ⟨sq, hsq⟩ : ∃ sq, P.S q = sq := ⟨_, rfl⟩
                have HEp := Lib.hid hsq
                have HEq := Lib.hid (hE.trans hsq)
                have HSq := Lib.hid (show Std sq from hsq ▸ HP.out.std q HKp.out)
                have HZq := Lib.hid (show sq.z.length ≤ 900 from hsq ▸ HF.out.z q HKp.out)
                clear hE hsq hqk
                go_wp2_with fail
                have BD := (Below.refl V1.heap.size V1).drew
                have X2 := Lib.hid (X1.out.keep BD)
                have Y2 := Lib.hid (Y1.out.keep BD)
                have c0 : V1.drew.cell? ⟨kb, ko + j, none⟩ = some (.string (bs q)) := c1
                have KT0 := Lib.hid (K1.out.keep BD)
                clear BD
                have HRs := Lib.hid (fun o sz W (u : SerAt W o sz sq) (hz : 128 ≤ sz) => (by have C := range_ser o sz sq 0 1099511627776 W u hz HSq.out.rise (Nat.le_trans HZq.out (by omega)); rw [all_in HSq.out] at C; exact C : Calls _ _ _ W (LaidP sq.z W)))
                unfold LaidP at HRs
                have HA1 := Lib.hid (fun W (u : SpAt W x m' P') => hSeries_ok W x m' P' q u HKq.out (by rw [HEq.out]; exact Nat.le_trans HZq.out (by omega)))
                have HA2 := Lib.hid (fun W (u : SpAt W y my P) => hSeries_ok W y my P q u HKp.out (by rw [HEp.out]; exact Nat.le_trans HZq.out (by omega)))
                rw [HEq.out] at HA1
                rw [HEp.out] at HA2
                have HZ1 := Lib.hid (X1.out.sp.ok.siz q HKq.out)
                have HZ2 := Lib.hid (Y1.out.sp.ok.siz q HKp.out)
                generalize P'.Z q = z1 at *
                generalize P.Z q = z2 at *
                generalize sq.z = sz at *
                obtain ⟨ns, hns⟩ : ∃ ns, sz.length = ns := ⟨_, rfl⟩
                rw [hns] at HRs
                clear hns
                have SM := Lib.hid (fun l1 l2 d1 d2 (W : World) (u : SampAt W l1 ns d1 sz) (v : SampAt W l2 ns d2 sz) => (by have C := same_any l1 l2 ns ns d1 d2 sz sz W u v; rw [decide_eq_true rfl] at C; exact C : Calls Tryz.prog 21 #[.slice l1 ns d1, .slice l2 ns d2] W fun e w' => e = .returned (.bool true) ∧ Drew W w'))
                go_region_held3 (fun w' => w'.cell? ⟨kb, ko + j, none⟩ = some (.string (bs q)))
                  (first
                    | exact E5.out
                    | exact E4.out
                    | exact E3.out
                    | exact E2.out
                    | exact E1.out
                    | exact E0.out
                    | exact c0
                    | fail)
                  (first
                    | (go_at_call 19
                       (with_reducible refine (HA1.out _ X2.out.sp).mono ?_)
                       rintro e U0 ⟨o0, rfl, _, _, b0⟩
                       have E0 := Lib.hid ((b0.cell (p := ⟨kb, ko + j, none⟩) (World.block_lt_of_cell? _ ⟨kb, ko + j, none⟩ c0)).trans c0)
                       have KTa := Lib.hid (KT0.out.keep b0)
                       have Xa := Lib.hid (X2.out.keep b0)
                       have Ya := Lib.hid (Y2.out.keep b0)
                       clear X2 Y2 b0 KT0)
                    | (go_at_call 19
                       (with_reducible refine (HA1.out _ Xa.out.sp).mono ?_)
                       rintro e U1 ⟨o1, rfl, _, s1, b1⟩
                       have E1 := Lib.hid ((b1.cell (p := ⟨kb, ko + j, none⟩) (World.block_lt_of_cell? _ ⟨kb, ko + j, none⟩ E0.out)).trans E0.out)
                       have KT1 := Lib.hid (KTa.out.keep b1)
                       have X3 := Lib.hid (Xa.out.keep b1)
                       have Y3 := Lib.hid (Ya.out.keep b1)
                       have T1 := Lib.hid s1
                       clear s1 Xa Ya KTa b1)
                    | (go_at_call 22
                       (with_reducible refine (HRs.out o1 z1 _ T1.out HZ1.out.1).mono ?_)
                       rintro e U2 ⟨l1, d1, rfl, la1, b2⟩
                       have E2 := Lib.hid ((b2.cell (p := ⟨kb, ko + j, none⟩) (World.block_lt_of_cell? _ ⟨kb, ko + j, none⟩ E1.out)).trans E1.out)
                       have KT2 := Lib.hid (KT1.out.keep b2)
                       have X4 := Lib.hid (X3.out.keep b2)
                       have Y4 := Lib.hid (Y3.out.keep b2)
                       have LA := Lib.hid la1
                       clear la1 T1 X3 Y3 b2)
                    | (go_at_call 19
                       (with_reducible refine (HA2.out _ Y4.out.sp).mono ?_)
                       rintro e U3 ⟨o2, rfl, _, s2, b3⟩
                       have E3 := Lib.hid ((b3.cell (p := ⟨kb, ko + j, none⟩) (World.block_lt_of_cell? _ ⟨kb, ko + j, none⟩ E2.out)).trans E2.out)
                       have KT3 := Lib.hid (KT2.out.keep b3)
                       have X5 := Lib.hid (X4.out.keep b3)
                       have Y5 := Lib.hid (Y4.out.keep b3)
                       have LB := Lib.hid (LA.out.keepB b3)
                       have T2 := Lib.hid s2
                       clear s2 X4 Y4 LA b3)
                    | (go_at_call 22
                       (with_reducible refine (HRs.out o2 z2 _ T2.out HZ2.out.1).mono ?_)
                       rintro e U4 ⟨l2, d2, rfl, la2, b4⟩
                       have E4 := Lib.hid ((b4.cell (p := ⟨kb, ko + j, none⟩) (World.block_lt_of_cell? _ ⟨kb, ko + j, none⟩ E3.out)).trans E3.out)
                       have KT4 := Lib.hid (KT3.out.keep b4)
                       have X6 := Lib.hid (X5.out.keep b4)
                       have Y6 := Lib.hid (Y5.out.keep b4)
                       have LC := Lib.hid (LB.out.keepB b4)
                       have LD := Lib.hid la2
                       clear la2 T2 X5 Y5 LB b4)
                    | (go_at_call 21
                       have LC1 := LC.out.1
                       have LD1 := LD.out.1
                       (with_reducible refine (SM.out l1 l2 d1 d2 _ LC1 LD1).mono ?_)
                       rintro e U5 ⟨rfl, dr⟩
                       have b5 := dr.bel
                       have E5 := Lib.hid ((b5.cell (p := ⟨kb, ko + j, none⟩) (World.block_lt_of_cell? _ ⟨kb, ko + j, none⟩ E4.out)).trans E4.out)
                       have KT5 := Lib.hid (KT4.out.keep b5)
                       have X7 := Lib.hid (X6.out.keep b5)
                       have Y7 := Lib.hid (Y6.out.keep b5)
                       clear dr b5 X6 Y6 LC LD LC1 LD1)
                    | fail)
                clear E0 E1 E2 E3 E4 E5 c0 SM HA1 HA2 HRs HZ1 HZ2 X1 Y1
                go_wp2
                go_roundw
                case rel => exact ⟨j + 1, by omega, by go_num, X7, Y7, KT5⟩
                case measure => simp [intOf]; omega
            · have hjz : ¬ (j : Int) < (n7 : Int) := by omega
              clear YR HST
              have CR := rright8_any a7 n7 c7 (keysL P.E) wr KR.out (keys_sh HP.out.gE)
              rw [decide_eq_true HP.out.gE.ss] at CR
              replace CR := Lib.hid CR
              have hbb : (hb == hb) = true := by cases hb <;> rfl
              go_wp2_with fail
              refine CR.out.mono ?_
              rintro e V1 ⟨rfl, d1⟩
              have X1 := Lib.hid (XR.out.keep d1.bel)
              have K1 := Lib.hid (KR.out.keep d1.bel)
              clear d1 XR KR CR
              have CH := rhas8_any a7 n7 c7 (keysL P.E) k V1 K1.out
              rw [show decide (k ∈ keysL P.E) = hb from HHB.out] at CH
              replace CH := Lib.hid CH
              go_wp2_with fail
              refine CH.out.mono ?_
              rintro e w' ⟨rfl, rfl⟩
              clear CH
              go_wp2_with fail
              refine (hKeys _ x m' P' X1.out.sp (Nat.le_trans HF7.out.e (by omega))).mono ?_
              rintro e V2 ⟨v2, rfl, r2, b2⟩
              obtain ⟨a2, c2, e2, hr2⟩ := r2.shape
              subst e2
              have br := bel_al V2 (.cells #[.string (bs k)] 9)
              have X3 := Lib.hid ((X1.out.keep b2).keep br)
              have K3 := Lib.hid ((K1.out.keep b2).keep br)
              have L3 := Lib.hid (hr2.keep br)
              have T3 := Lib.hid (TxAt.one V2 k)
              have CP := rpick8_any a7 n7 c7 (keysL P.E) (some ⟨V2.heap.size, 0, none⟩) 1 1 [k] false _ K3.out T3.out (keys_sh HP.out.gE) (by omega)
              rw [← HGK.out] at CP
              unfold SortP at CP
              replace CP := Lib.hid CP
              clear br r2 hr2 b2 X1 K1 T3
              obtain ⟨n2, hn2⟩ : ∃ n2, (keysL P'.E).length = n2 := ⟨_, rfl⟩
              rw [hn2] at CP L3 ⊢
              clear hn2
              go_wp2_with fail
              generalize V2.alloc (.cells #[.string (bs k)] 9) = V3 at *
              generalize V2.heap.size = sb at *
              refine CP.out.mono ?_
              rintro e V4 ⟨a4, c4, rfl, t4, b4⟩
              have X4 := Lib.hid (X3.out.keep b4)
              have L4 := Lib.hid (L3.out.keep b4)
              have T4 := Lib.hid t4
              clear t4 b4 X3 K3 L3 CP
              have CS := same8_any a2 n2 c2 (keysL P'.E) a4 n2 c4 (keysL P'.E) V4 L4.out T4.out
              rw [decide_eq_true rfl] at CS
              replace CS := Lib.hid CS
              go_wp2_with fail
              refine CS.out.mono ?_
              rintro e V5 ⟨rfl, d5⟩
              have X5 := Lib.hid (X4.out.keep d5.bel)
              clear d5 X4 L4 T4 CS
              go_wp2_with fail
              refine (hSeries_no V5 x m' P' k X5.out.sp HNK.out).mono ?_
              rintro e V6 ⟨rfl, b6⟩
              have X6 := Lib.hid (X5.out.keep b6)
              clear b6 X5
              go_wp2_with fail
              refine (known12_any _).mono ?_
              rintro e WE ⟨rfl, bE⟩
              have XE := Lib.hid (X6.out.keep bE).bel
              go_wp2
              go_ret
              exact ⟨rfl, XE.out⟩
theorem lifted (os : Os) (started : os.Started) (H : Type) (enc : TypeId × Value → H) :
    ReturnsInHanded {} Tryz.checked os 5 .any (Rows.spaceKeysSpec.pre6 enc Tryz.prog Tryz.f5 Rows.spaceKeysRow.domain false) (Rows.spaceKeysSpec.post enc Tryz.prog Tryz.f5 false true false false) := by
  refine returnsInHanded_of_change (C := Tryz.checked) own started (by kernel_rfl) Tryz.func5
    (ChangeSpec.witness6 (enc := enc) (C := Tryz.checked) false ⟨#[], #[.slice none 0 0, .string ByteArray.empty], []⟩ 8 (by kernel_rfl) (by kernel_rfl) (by kernel_rfl) (by kernel_rfl)) ?_
  intro W base args ds gs before hval0 hW hcnd _
  have hval : ∀ (j : Nat) t v, Tryz.f5.params[j]? = some t → args[j]? = some v → Value.okWide Tryz.prog W .any base t v := hval0
  have hW' := hW
  obtain ⟨p, q, hA0, hV, rfl, hfz, hnd⟩ := hW
  have hA : DataW.TrodAll enc Tryz.prog W 0 (fun _ => true) true Tryz.f5.params.toList args.toList ds p := hA0
  rw [Tryz.params5] at hA hval
  obtain ⟨v0, vs0, d0, ds0, p0, q0, hargs, rfl, rfl, h0, r0⟩ := trodAll_cons hA
  obtain ⟨v1, vs1, d1, ds1, p1, q1, rfl, rfl, rfl, h1, r1⟩ := trodAll_cons r0
  obtain ⟨rfl, rfl, rfl⟩ := trodAll_nil r1
  obtain rfl : args = #[v0, v1] := by cases args; simp_all
  obtain ⟨rfl, rfl⟩ := trodVars_none hV
  obtain ⟨a0, len0, cap0, rfl⟩ := okWide_slice Tryz.underlying22 (hval 0 22 v0 rfl rfl)
  have k0 := h0
  have lt0 : ∀ x ∈ p0, x.block < W.heap.size := by obtain ⟨m, hm⟩ := k0; exact DataW.trod_lt m _ _ _ hm
  obtain ⟨z0, w0⟩ := open_ops12 h0
  obtain ⟨a1, rfl, rfl, rfl, w1⟩ := open_string Tryz.underlying9 (hval 1 9 v1 rfl rfl) h1
  clear hA0 hval0
  refine (walk a0 len0 cap0 z0 a1 W w0 w1).mono fun e W' ⟨he, bel⟩ => ?_
  subst he
  exact ⟨_, rfl, _, _, _, [], _, [], hW', trodAll_mk1 (shut_bool Tryz.underlying4 _), (trodAll_cons_mk (Below.trod laidOut (by kernel_rfl) (of_decide_eq_true (by kernel_rfl)) k0 bel lt0) (trodAll_cons_mk (shut_string Tryz.underlying9 w1) trodAll_mk0)), rfl, bel.frame _, fun h => by cases h⟩
theorem closed : joinedFacts Tryz.pinned.checked.prog 5 Tryz.f5 Rows.spaceKeysSpec Rows.spaceKeysRow = true := by
  unfold joinedFacts
  repeat' (with_reducible refine Bool.and_eq_true_iff.2 ⟨?_, ?_⟩)
  all_goals as_aux_lemma => kernel_rfl
theorem over : Rows.spaceKeysRow.holds Tryz.pinned (OpenSpec.ofChange Rows.spaceKeysSpec) :=
  OpenClaim.holds_of_wide 5 Tryz.f5 rfl rfl rfl rfl rfl rfl rfl ⟨rfl, rfl, rfl, rfl, rfl⟩ rfl rfl rfl rfl rfl (by kernel_rfl) Tryz.func5 closed
    (of_decide_eq_true (by kernel_rfl)) (by unfold Func.isWrapper; first | (rw [if_pos (by decide +kernel)]; kernel_rfl) | (rw [if_neg (by decide +kernel)]; exact ⟨rfl, rfl⟩))
    (fun os started H enc _ => lifted os started H enc)
theorem proved : Rows.SpaceKeysSaid := over
end spaceKeys
theorem spaceKeys_holds : Rows.SpaceKeysSaid := spaceKeys.proved
#print axioms spaceKeys_holds
end Go.Proofs.YtmifpfojhlmbkaaGreat
