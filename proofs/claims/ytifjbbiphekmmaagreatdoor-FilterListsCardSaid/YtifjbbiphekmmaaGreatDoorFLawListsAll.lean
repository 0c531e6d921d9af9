/-
  The statement 'FilterLists' of layer 10: a list of values finds what each of its values finds alone, together.
  No condition on the arguments; the tables of unicode/utf8 are as the program's text lays them (the card ties that).
-/
import Derived.Test.YtifjbbiphekmmaaGreatDoorIMath
import Derived.Test.YtifjbbiphekmmaaGreatDoorEOps
import Derived.Test.YtifjbbiphekmmaaGreatDoorIAt
import Derived.Test.YtifjbbiphekmmaaGreatDoorIRight
import Derived.Test.YtifjbbiphekmmaaGreatDoorILab
import Derived.Test.YtifjbbiphekmmaaGreatDoorIArgs
import Derived.Test.YtifjbbiphekmmaaGreatDoorIOwn
import Derived.Test.YtifjbbiphekmmaaGreatDoorFMem
import Derived.Test.YtifjbbiphekmmaaGreatDoorEHas
import Derived.Test.YtifjbbiphekmmaaGreatDoorFFind
import Derived.Test.YtifjbbiphekmmaaGreatDoorFKnown
import Derived.Test.YtifjbbiphekmmaaGreatDoorFArgs
import Derived.Test.YtifjbbiphekmmaaGreatDoorFLaid
import Derived.Test.YtifjbbiphekmmaaGreatDoorTie
import Derived.Test.YtifjbbiphekmmaaGreatDoorCards
import Derived.Test.YtifjbbiphekmmaaGreatDoorFLight
import Derived.Test.YtifjbbiphekmmaaGreatDoorFMeet
import Derived.ShutString
import Derived.ChangeOld
import Derived.SevenTiedAt
/-
  Plain facts of layer 9's laws: labels counted by their names.
-/
namespace Go.Proofs.YtifjbbiphekmmaaGreatDoor
set_option linter.unusedVariables false
set_option linter.unusedSimpArgs false

/-- Names that hold all names of the first j keys, and of k labels of the next one. -/
structure Cov (E : List Ent) (j : Nat) (l : List Lb) (o : List Tx) : Prop where
  ss : SS o
  short : ∀ x ∈ o, x.length ≤ 64
  all : ∀ p ∈ E.take j, ∀ k ∈ keysL p.2, k ∈ o
  here : ∀ k ∈ keysL l, k ∈ o
theorem Cov.zero (E : List Ent) : Cov E 0 [] [] := ⟨ss_nil, by simp, by simp, by simp [keysL]⟩
theorem Cov.ins {E : List Ent} {j : Nat} {l : List Lb} {o : List Tx} {x v : Tx} (h : Cov E j l o) (hx : x.length ≤ 64) : Cov E j (l ++ [(x, v)]) (insS x o) :=
  ⟨insS_ss h.ss, fun y hy => by rcases mem_insS.1 hy with e | e; · rw [e]; exact hx
                                · exact h.short y e,
   fun p hp k hk => mem_insS.2 (.inr (h.all p hp k hk)), fun k hk => by
    simp only [keysL, List.map_append, List.mem_append, List.map_cons, List.map_nil, List.mem_singleton] at hk
    rcases hk with hk | hk
    · exact mem_insS.2 (.inr (h.here k hk))
    · exact mem_insS.2 (.inl hk)⟩
theorem Cov.next {E : List Ent} {j : Nat} {o : List Tx} (hj : j < E.length) (h : Cov E j E[j].2 o) : Cov E (j + 1) [] o :=
  ⟨h.ss, h.short, fun p hp k hk => by
    rw [List.take_succ_eq_append_getElem hj] at hp
    rcases List.mem_append.1 hp with hp | hp
    · exact h.all p hp k hk
    · rw [List.mem_singleton] at hp
      subst hp; exact h.here k hk, by simp [keysL]⟩
theorem with_cons (p : Ent) (E : List Ent) (n : Tx) : (withE (p :: E) n).length = (if n ∈ keysL p.2 then 1 else 0) + (withE E n).length := by
  have e : ∀ L : List Ent, (withE L n).length = (L.filter fun p => decide (n ∈ keysL p.2)).length := fun L => by unfold withE; rw [show ∀ M : List Ent, (keysL M).length = M.length from fun M => by unfold keysL; rw [List.length_map]]
  rw [e, e]
  by_cases h : n ∈ keysL p.2
  · rw [List.filter_cons_of_pos (p := fun p : Ent => decide (n ∈ keysL p.2)) (decide_eq_true h), if_pos h, List.length_cons]; omega
  · rw [List.filter_cons_of_neg (by simp [h]), if_neg h]; omega
def cntW (E : List Ent) (o : List Tx) : Nat := (o.map fun n => (withE E n).length).sum
theorem cnt_cons (p : Ent) (E : List Ent) : ∀ o : List Tx, cntW (p :: E) o = (o.filter fun n => decide (n ∈ keysL p.2)).length + cntW E o
  | [] => rfl
  | n :: o => by
    have ih := cnt_cons p E o
    unfold cntW at *
    rw [List.map_cons, List.sum_cons, ih, with_cons, List.map_cons, List.sum_cons]
    by_cases h : n ∈ keysL p.2
    · rw [List.filter_cons_of_pos (p := fun n => decide (n ∈ keysL p.2)) (decide_eq_true h), if_pos h, List.length_cons]; omega
    · rw [List.filter_cons_of_neg (by simp [h]), if_neg h]; omega
theorem sum_zero : ∀ o : List Tx, (o.map fun _ => 0).sum = 0
  | [] => rfl
  | _ :: o => by rw [List.map_cons, List.sum_cons, sum_zero o]
theorem cnt_all {o : List Tx} (ho : o.Nodup) : ∀ E : List Ent, (∀ p ∈ E, (keysL p.2).Nodup) → (∀ p ∈ E, ∀ k ∈ keysL p.2, k ∈ o) → cntW E o = sizeE E
  | [], _, _ => by
    exact sum_zero o
  | p :: E, h, h2 => by
    rw [cnt_cons, cnt_all ho E (fun q hq => h q (List.mem_cons_of_mem _ hq)) (fun q hq => h2 q (List.mem_cons_of_mem _ hq))]
    have h1 : (o.filter fun n => decide (n ∈ keysL p.2)).length = p.2.length := by
      have e1 := len_le_of (a := o.filter fun n => decide (n ∈ keysL p.2)) (b := keysL p.2) (ho.filter _) (fun x hx => of_decide_eq_true (List.mem_filter.1 hx).2)
      have e2 := len_le_of (a := keysL p.2) (b := o.filter fun n => decide (n ∈ keysL p.2)) (h p (by simp)) (fun x hx => List.mem_filter.2 ⟨h2 p (by simp) x hx, decide_eq_true hx⟩)
      have e3 : (keysL p.2).length = p.2.length := by unfold keysL; rw [List.length_map]
      omega
    unfold sizeE
    rw [h1, List.map_cons, List.sum_cons]
theorem cnt_snoc {E : List Ent} {o : List Tx} {j : Nat} (h : j < o.length) : cntW E (o.take (j + 1)) = cntW E (o.take j) + (withE E o[j]).length := by
  rw [List.take_succ_eq_append_getElem h]
  unfold cntW
  rw [List.map_append, List.sum_append]; simp
theorem keysL_at {E : List Ent} {j : Nat} (h : j < E.length) : (keysL E).getD j [] = E[j].1 := by
  unfold keysL
  rw [List.getD_eq_getElem?_getD, List.getElem?_map, List.getElem?_eq_getElem h]; rfl
theorem look_at {E : List Ent} (hs : SS (keysL E)) {j : Nat} (h : j < E.length) : look E E[j].1 = some E[j].2 := mem_look (ssG_nodup hs) (List.getElem_mem h)

end Go.Proofs.YtifjbbiphekmmaaGreatDoor
/-
  Contracts of the document's answers of layer 8: Add, Of, Pick, Or.
-/
namespace Go.Proofs.YtifjbbiphekmmaaGreatDoor
open Go.RowKit
set_option linter.unusedVariables false
set_option linter.unusedSimpArgs false

theorem TRow.alloc {w : World} {base : Nat} {v : Value} {l : List Tx} (h : TRow w base v l) (o : Obj) : TRow (w.alloc o) base v l := h.keep ((Below.refl _ _).alloc (Nat.le_refl _) o)
theorem insS_lt {x y : Tx} {l : List Tx} (h : y < x) : insS x (y :: l) = y :: insS x l := if_pos h
theorem insS_eq {y : Tx} {l : List Tx} : insS y (y :: l) = y :: l := by rw [insS, if_neg (lt_no y), if_pos rfl]
theorem insS_gt {x y : Tx} {l : List Tx} (h : ¬ y < x) (k : y ≠ x) : insS x (y :: l) = x :: y :: l := by rw [insS, if_neg h, if_neg k]
theorem drop_at {l : List Tx} {j : Nat} (h : j < l.length) : l.drop j = l.getD j [] :: l.drop (j + 1) := by rw [getD_get h]; exact List.drop_eq_getElem_cons h

set_option maxRecDepth 100000 in
set_option maxHeartbeats 4000000 in
theorem radd8_any (a : Option Addr) (n c : Nat) (l : List Tx) (x : Tx) (w : World) (h : TxAt w a n c l) (hs : Sh l) (hx : x.length ≤ 9223372036854775807) (hl : n ≤ 1000000) :
    Calls Tryz.prog 82 #[.slice a n c, .string (bs x)] w (MadeP w (insS x l)) := by
  have HA := Lib.hid h
  have HL := Lib.hid h.1
  have hm := h.2.2.1
  have HH := Lib.hid hs
  have HM0 := Lib.hid (show ([] : List Tx) ++ insS x (l.drop 0) = insS x l from rfl)
  clear h hs
  go_enter Tryz.func82, Tryz.ntmps82
  go_wp2_with fail
  go_loopw [5, 6] (fun vo vi wr => ∃ (j : Nat) (o : List Tx), vi = .int .i64 (j : Int) ∧ j ≤ n ∧ Hid (o.length = j) ∧ Hid (TRow wr w.heap.size vo o) ∧ Hid (Below w.heap.size w wr) ∧ Hid (o ++ insS x (l.drop j) = insS x l)) (fun _ vi _ => n - (intOf vi).toNat)
  case atStart => exact ⟨0, [], rfl, Nat.zero_le _, Lib.hid rfl, Lib.hid (TRow.nil _ _), Lib.hid (Below.refl _ _), HM0⟩
  case round =>
    obtain ⟨j, o, rfl, hj, HN, HO, HB, HM⟩ := hrel
    by_cases hjn : j < n
    · have hjz : (j : Int) < (n : Int) := by omega
      have T1 := HA.out.keep HB.out
      obtain ⟨pb, po, e1, hpb, x0⟩ := T1.at_ j hjn
      have HBL := Lib.hid (fun W => rbelow_any (l.getD j []) x W (HH.out.at_ j) hx)
      have HD := Lib.hid (drop_at (l := l) (j := j) (by rw [HL.out]; exact hjn))
      subst e1
      clear T1
      by_cases he : l.getD j [] < x
      · have HN2 := Lib.hid (show (o ++ [l.getD j []]) ++ insS x (l.drop (j + 1)) = insS x l from by rw [← HM.out, HD.out, insS_lt he, List.append_assoc]; rfl)
        rw [decide_eq_true he] at HBL
        obtain ⟨y, hy⟩ : ∃ y, l.getD j [] = y := ⟨_, rfl⟩
        rw [hy] at HBL HN2 x0
        clear hy he HM HD
        go_wp2_with fail
        refine (HBL.out _).mono ?_
        rintro e W2 ⟨rfl, hd⟩
        have x1 : W2.cell? ⟨pb, po + j, none⟩ = some (.string (bs y)) := by rw [hd.bel.cell hpb]; exact x0
        have O1 := HO.out.keep hd.bel
        have B1 := bel_gbn HB.out HB.out.size (hd.gb none)
        have B0 := (Below.refl W2.heap.size W2).alloc (Nat.le_refl _) (.cells #[.string (bs y)] 9)
        have HO2 := Lib.hid (O1.alloc (.cells #[.string (bs y)] 9))
        have HT2 := Lib.hid (TxAt.one W2 y)
        have HB2 := Lib.hid (B1.trans (B0.mono B1.size))
        clear B0
        clear O1 B1 x0 HO HB hd HBL
        generalize bs y = sp at *
        go_wp2_with (at_builtin; refine wpList_append_tx rfl _ _ rfl w.heap.size _ o rfl HO2.out _ 1 1 [y] rfl HT2.out (by rw [HN.out]; omega) HB2.out.size ?_)
        intro v3 W3 O3 g3
        have B3 := TRow.bel HB2.out HB2.out.size HO2.out (Nat.le_refl _) g3
        clear HO2 HB2 HT2 g3
        go_wp2
        go_roundw
        case rel => exact ⟨j + 1, _, by go_num, by omega, Lib.hid (by rw [List.length_append, HN.out]; rfl), Lib.hid O3, Lib.hid B3, HN2⟩
        case measure => simp [intOf]; omega
      · have x00 : w.cell? ⟨pb, po + j, none⟩ = some (.string (bs (l.getD j []))) := by
          obtain ⟨pb', po', e2, hpb', x00⟩ := HA.out.at_ j hjn
          simp only [Option.some.injEq, Addr.mk.injEq] at e2
          obtain ⟨rfl, rfl, _⟩ := e2
          exact x00
        have hpw : pb < w.heap.size := by
          obtain ⟨pb', po', e2, hpb', _⟩ := HA.out.at_ j hjn
          simp only [Option.some.injEq, Addr.mk.injEq] at e2
          obtain ⟨rfl, rfl, _⟩ := e2
          exact hpb'
        by_cases ke : l.getD j [] = x
        · have HN2 := Lib.hid (show (o ++ [x]) ++ l.drop (j + 1) = insS x l from by rw [← HM.out, HD.out, ke, insS_eq, List.append_assoc]; rfl)
          have t1 := eq_bs (l.getD j []) x
          rw [decide_eq_true ke] at t1
          rw [decide_eq_false he] at HBL
          obtain ⟨a3, hs3, T3⟩ := HA.out.from_ (j + 1) (by omega)
          have HT3 := Lib.hid T3
          clear ke he HM HD T3
          generalize bs (l.getD j []) = sy at *
          go_wp2_with fail
          refine (HBL.out _).mono ?_
          rintro e W2 ⟨rfl, hd⟩
          have O1 := HO.out.keep hd.bel
          have B1 := bel_gbn HB.out HB.out.size (hd.gb none)
          have B0 := (Below.refl W2.heap.size W2).alloc (Nat.le_refl _) (.cells #[.string (bs x)] 9)
          have HO2 := Lib.hid (O1.alloc (.cells #[.string (bs x)] 9))
          have HT2 := Lib.hid (TxAt.one W2 x)
          have HB2 := Lib.hid (B1.trans (B0.mono B1.size))
          clear B0
          have x1 : ∀ W3, Below w.heap.size w W3 → W3.cell? ⟨pb, po + j, none⟩ = some (.string sy) := fun W3 b3 => by rw [b3.cell hpw]; exact x00
          clear O1 B1 HO HB hd HBL
          obtain ⟨sx, hsx⟩ : ∃ sx, bs x = sx := ⟨_, rfl⟩
          rw [hsx] at HT2 HO2 HB2 t1 ⊢
          go_wp2_with (at_builtin; refine wpList_append_tx rfl _ _ rfl w.heap.size _ o rfl HO2.out _ 1 1 [x] rfl HT2.out (by rw [HN.out]; omega) HB2.out.size ?_)
          intro v3 W3 O3 g3
          have B3 := TRow.bel HB2.out HB2.out.size HO2.out (Nat.le_refl _) g3
          have y1 := x1 W3 B3
          have HT4 := Lib.hid (HT3.out.keep B3)
          have HO4 := Lib.hid O3
          have HB4 := Lib.hid B3
          clear HO2 HB2 HT2 g3 O3 B3 x1
          have hs4 : ∀ W : World, (Instr.slice 22 (.slice (some ⟨pb, po, none⟩) n c) (some (.int .i64 ((j : Int) + 1))) none none).run Tryz.prog W = .ok (.slice a3 (n - (j + 1)) (c - (j + 1))) W := hs3
          clear hs3
          go_wp2_with (at_builtin; refine wpList_append_tx rfl _ _ rfl w.heap.size _ (o ++ [x]) rfl HO4.out _ _ _ _ rfl HT4.out (by rw [List.length_append, HN.out]; simp only [List.length_singleton]; omega) HB4.out.size ?_)
          intro v5 W5 O5 g5
          have B5 := TRow.bel HB4.out HB4.out.size HO4.out (Nat.le_refl _) g5
          replace O5 : TRow W5 w.heap.size v5 (insS x l) := by rw [← HN2.out, List.append_assoc]; exact O5
          clear HO4 HB4 g5
          go_wp2
          go_ret
          exact ⟨v5, rfl, O5, B5⟩
        · have HN2 := Lib.hid (show (o ++ [x]) ++ l.drop j = insS x l from by rw [← HM.out, HD.out, insS_gt he ke, List.append_assoc]; rfl)
          have t1 := eq_bs (l.getD j []) x
          rw [decide_eq_false ke] at t1
          rw [decide_eq_false he] at HBL
          obtain ⟨a3, hs3, T3⟩ := HA.out.from_ (j) (by omega)
          have HT3 := Lib.hid T3
          clear ke he HM HD T3
          generalize bs (l.getD j []) = sy at *
          go_wp2_with fail
          refine (HBL.out _).mono ?_
          rintro e W2 ⟨rfl, hd⟩
          have O1 := HO.out.keep hd.bel
          have B1 := bel_gbn HB.out HB.out.size (hd.gb none)
          have B0 := (Below.refl W2.heap.size W2).alloc (Nat.le_refl _) (.cells #[.string (bs x)] 9)
          have HO2 := Lib.hid (O1.alloc (.cells #[.string (bs x)] 9))
          have HT2 := Lib.hid (TxAt.one W2 x)
          have HB2 := Lib.hid (B1.trans (B0.mono B1.size))
          clear B0
          have x1 : ∀ W3, Below w.heap.size w W3 → W3.cell? ⟨pb, po + j, none⟩ = some (.string sy) := fun W3 b3 => by rw [b3.cell hpw]; exact x00
          clear O1 B1 HO HB hd HBL
          obtain ⟨sx, hsx⟩ : ∃ sx, bs x = sx := ⟨_, rfl⟩
          rw [hsx] at HT2 HO2 HB2 t1 ⊢
          go_wp2_with (at_builtin; refine wpList_append_tx rfl _ _ rfl w.heap.size _ o rfl HO2.out _ 1 1 [x] rfl HT2.out (by rw [HN.out]; omega) HB2.out.size ?_)
          intro v3 W3 O3 g3
          have B3 := TRow.bel HB2.out HB2.out.size HO2.out (Nat.le_refl _) g3
          have y1 := x1 W3 B3
          have HT4 := Lib.hid (HT3.out.keep B3)
          have HO4 := Lib.hid O3
          have HB4 := Lib.hid B3
          clear HO2 HB2 HT2 g3 O3 B3 x1
          have hs4 := hs3
          clear hs3
          go_wp2_with (at_builtin; refine wpList_append_tx rfl _ _ rfl w.heap.size _ (o ++ [x]) rfl HO4.out _ _ _ _ rfl HT4.out (by rw [List.length_append, HN.out]; simp only [List.length_singleton]; omega) HB4.out.size ?_)
          intro v5 W5 O5 g5
          have B5 := TRow.bel HB4.out HB4.out.size HO4.out (Nat.le_refl _) g5
          replace O5 : TRow W5 w.heap.size v5 (insS x l) := by rw [← HN2.out, List.append_assoc]; exact O5
          clear HO4 HB4 g5
          go_wp2
          go_ret
          exact ⟨v5, rfl, O5, B5⟩
    · obtain rfl : j = n := by omega
      have HN2 := Lib.hid (show (o ++ [x]) ++ l.drop j = insS x l from by rw [← HM.out, List.drop_of_length_le (by rw [HL.out]; exact Nat.le_refl _)]; simp [insS])
      obtain ⟨a3, hs3, T3⟩ := HA.out.from_ j (Nat.le_refl _)
      obtain ⟨r0, hr0⟩ : ∃ r0, j - j = r0 := ⟨_, rfl⟩
      have HR0 := Lib.hid (show r0 ≤ 1 by omega)
      rw [hr0] at hs3 T3
      have HT3 := Lib.hid T3
      clear hr0
      have O1 := HO.out
      have B1 := HB.out
      clear HM T3
      have B0 := (Below.refl wr.heap.size wr).alloc (Nat.le_refl _) (.cells #[.string (bs x)] 9)
      have HO2 := Lib.hid (O1.alloc (.cells #[.string (bs x)] 9))
      have HT2 := Lib.hid (TxAt.one wr x)
      have HB2 := Lib.hid (B1.trans (B0.mono B1.size))
      clear B0
      clear O1 B1 HO HB
      obtain ⟨sx, hsx⟩ : ∃ sx, bs x = sx := ⟨_, rfl⟩
      rw [hsx] at HT2 HO2 HB2 ⊢
      go_wp2_with (at_builtin; refine wpList_append_tx rfl _ _ rfl w.heap.size _ o rfl HO2.out _ 1 1 [x] rfl HT2.out (by rw [HN.out]; omega) HB2.out.size ?_)
      intro v3 W3 O3 g3
      have B3 := TRow.bel HB2.out HB2.out.size HO2.out (Nat.le_refl _) g3
      have HT4 := Lib.hid (HT3.out.keep B3)
      have HO4 := Lib.hid O3
      have HB4 := Lib.hid B3
      clear HO2 HB2 HT2 g3 O3 B3
      go_wp2_with (at_builtin; refine wpList_append_tx rfl _ _ rfl w.heap.size _ (o ++ [x]) rfl HO4.out _ _ _ _ rfl HT4.out (by rw [List.length_append, HN.out]; simp only [List.length_singleton]; have := HR0.out; omega) HB4.out.size ?_)
      intro v5 W5 O5 g5
      have B5 := TRow.bel HB4.out HB4.out.size HO4.out (Nat.le_refl _) g5
      replace O5 : TRow W5 w.heap.size v5 (insS x l) := by rw [← HN2.out, List.append_assoc]; exact O5
      clear HO4 HB4 g5
      go_wp2
      go_ret
      exact ⟨v5, rfl, O5, B5⟩

end Go.Proofs.YtifjbbiphekmmaaGreatDoor
/-
  The document's answer's entries in memory: keys with their labels, in a row.
-/
namespace Go.Proofs.YtifjbbiphekmmaaGreatDoor
open Go.RowKit
set_option linter.unusedVariables false
set_option linter.unusedSimpArgs false

/-- An entry: a key, a slice, and the labels that lie there. -/
structure EnT where
  key : Tx
  a : Option Addr
  n : Nat
  c : Nat
  l : List Lb
instance : Inhabited EnT := ⟨⟨[], none, 0, 0, []⟩⟩
def EnT.ent (e : EnT) : Ent := (e.key, e.l)
def ents (T : List EnT) : List Ent := T.map EnT.ent
def eK (T : List EnT) (i : Nat) : Tx := (T.getD i default).key
def eV (T : List EnT) (i : Nat) : Value := .slice (T.getD i default).a (T.getD i default).n (T.getD i default).c
def EnAt (w : World) (a : Option Addr) (n c : Nat) (l : List EnT) : Prop :=
  l.length = n ∧ n ≤ c ∧ n ≤ 9223372036854775807 ∧
  (n = 0 ∨ ∃ b off, a = some ⟨b, off, none⟩ ∧ b < w.heap.size ∧ ∀ i, i < n → w.cell? ⟨b, off + i * 2, none⟩ = some (.string (bs (eK l i))) ∧ w.cell? ⟨b, off + i * 2 + 1, none⟩ = some (eV l i))
theorem EnAt.nil (w : World) (a : Option Addr) (c : Nat) : EnAt w a 0 c [] := ⟨rfl, Nat.zero_le _, by omega, .inl rfl⟩
theorem EnAt.len {w : World} {a : Option Addr} {n c : Nat} {l : List EnT} (h : EnAt w a n c l) : EnAt w a l.length c l := by
  have := h.1
  subst this; exact h
theorem EnAt.trn {F : Nat → Prop} {w w' : World} (t : Trn F w w') {a : Option Addr} {n c : Nat} {l : List EnT} (h : EnAt w a n c l) : EnAt w' a n c l := by
  obtain ⟨h1, h2, h3, h5⟩ := h
  refine ⟨h1, h2, h3, ?_⟩
  rcases h5 with h0 | ⟨b, off, rfl, hlt, hc⟩
  · exact .inl h0
  · exact .inr ⟨b, off, rfl, Nat.lt_of_lt_of_le hlt t.size, fun i hi => ⟨t.cell (hc i hi).1, t.cell (hc i hi).2⟩⟩
theorem EnAt.keep {w w' : World} {a : Option Addr} {n c : Nat} {l : List EnT} (h : EnAt w a n c l) (hb : Below w.heap.size w w') : EnAt w' a n c l := h.trn (F := fun _ => False) (.of hb)
theorem EnAt.at_ {w : World} {a : Option Addr} {n c : Nat} {l : List EnT} (h : EnAt w a n c l) (i : Nat) (hi : i < n) :
    ∃ b off, a = some ⟨b, off, none⟩ ∧ b < w.heap.size ∧ w.cell? ⟨b, off + i * 2, none⟩ = some (.string (bs (eK l i))) ∧ w.cell? ⟨b, off + i * 2 + 1, none⟩ = some (eV l i) := by
  obtain ⟨h1, h2, h3, h5⟩ := h
  rcases h5 with h0 | ⟨b, off, rfl, hlt, hc⟩
  · omega
  · exact ⟨b, off, rfl, hlt, hc i hi⟩
theorem size_en (W : World) : (sizeOf (Tryz.prog.elem 81)).run Tryz.prog W = .ok 2 W := by kernel_rfl
/-- From the k-th on. -/
theorem EnAt.from_ {w : World} {a : Option Addr} {n c : Nat} {l : List EnT} (h : EnAt w a n c l) (k : Nat) (hk : k ≤ n) :
    ∃ a', (∀ W : World, (Instr.slice 81 (.slice a n c) (some (.int .i64 (k : Int))) none none).run Tryz.prog W = .ok (.slice a' (n - k) (c - k)) W) ∧ EnAt w a' (n - k) (c - k) (l.drop k) := by
  obtain ⟨h1, h2, h3, h5⟩ := h
  refine ⟨if c = k then a else a.map (·.add (k * 2)), fun W => ?_, by simp; omega, by omega, by omega, ?_⟩
  · rw [run_slice_l W 81 _ _ _ (by kernel_rfl) .i64 (k : Int) (by omega) (by omega), size_en]
    simp [Result.andThen, sliced]
  · by_cases hz : n - k = 0
    · exact .inl hz
    · rcases h5 with h0 | ⟨b, off, rfl, hlt, hc⟩
      · omega
      · rw [if_neg (by omega)]
        refine .inr ⟨b, off + k * 2, by simp [Addr.add], hlt, fun i hi => ?_⟩
        have e : (l.drop k).getD i default = l.getD (k + i) default := by rw [List.getD_eq_getElem?_getD, List.getD_eq_getElem?_getD, List.getElem?_drop]
        unfold eK eV
        rw [e]
        have := hc (k + i) (by omega)
        rw [show off + k * 2 + i * 2 = off + (k + i) * 2 from by omega]
        exact this

def enCells (l : List EnT) : List Value := l.flatMap fun x => [.string (bs x.key), .slice x.a x.n x.c]
theorem enCells_length (z : List EnT) : (enCells z).length = z.length * 2 := by
  induction z with
  | nil => rfl
  | cons x r ih =>
    have e : enCells (x :: r) = .string (bs x.key) :: .slice x.a x.n x.c :: enCells r := by simp [enCells]
    rw [e, List.length_cons, List.length_cons, ih, List.length_cons]; omega
theorem enCells_append (a b : List EnT) : enCells (a ++ b) = enCells a ++ enCells b := by simp [enCells]
theorem enCells_get (z : List EnT) (j : Nat) (h : j < z.length) : (enCells z)[j * 2]? = some (.string (bs (eK z j))) ∧ (enCells z)[j * 2 + 1]? = some (eV z j) := by
  induction z generalizing j with
  | nil => simp at h
  | cons x r ih =>
    have e : enCells (x :: r) = .string (bs x.key) :: .slice x.a x.n x.c :: enCells r := by simp [enCells]
    rw [e]
    cases j with
    | zero => simp [eK, eV]
    | succ j =>
      have h1 := ih j (by simpa using h)
      rw [show (j + 1) * 2 = j * 2 + 1 + 1 from by omega]
      simpa [eK, eV] using h1
theorem enCells_one (z : List EnT) : ∀ u ∈ enCells z, u.oneCell' = true := by
  intro u hu
  obtain ⟨e, _, h⟩ := List.mem_flatMap.1 hu
  simp only [List.mem_cons, List.not_mem_nil, or_false] at h
  rcases h with rfl | rfl <;> rfl
theorem info_en : (Tryz.prog.info? 87).map (fun i => (i.zero, i.size, i.bytes)) = some (some (.agg #[.string ⟨#[]⟩, .slice none 0 0]), 2, 40) := by kernel_rfl

def ERow (w : World) (base : Nat) (v : Value) (l : List EnT) : Prop := w.ownsRow base 87 2 v l.length (enCells l)
theorem ERow.nil (w : World) (base : Nat) : ERow w base (.slice none 0 0) [] := World.ownsRow_nil w base _ _
theorem ERow.of {w : World} {base n : Nat} {v : Value} {l : List EnT} (h : w.ownsRow base 87 2 v n (enCells l)) : ERow w base v l := by
  have e := h.1
  rw [enCells_length] at e
  have : l.length = n := by omega
  subst this
  exact h
theorem ERow.shape {w : World} {base : Nat} {v : Value} {l : List EnT} (h : ERow w base v l) : ∃ a cap, v = .slice a l.length cap ∧ EnAt w a l.length cap l := by
  rcases h.2 with ⟨rfl, e⟩ | ⟨g, cap, cur, rfl, hb, hg, hle, hmx, hsz, htk⟩
  · have : l = [] := List.eq_nil_of_length_eq_zero e
    subst this
    exact ⟨none, 0, rfl, EnAt.nil w none 0⟩
  · have hcell : ∀ j u, (enCells l)[j]? = some u → w.cell? ⟨g, j, none⟩ = some u := fun j u hu => by
      have hjl : j < l.length * 2 := by have := (List.getElem?_eq_some_iff.1 hu).1; rw [enCells_length] at this; exact this
      rw [cell_of hg]
      rw [← htk, List.getElem?_take, if_pos hjl, Array.getElem?_toList] at hu
      exact hu
    refine ⟨_, cap, rfl, rfl, hle, by unfold maxLen at hmx; omega, .inr ⟨g, 0, rfl, heap_lt hg, fun i hi => ?_⟩⟩
    obtain ⟨e1, e2⟩ := enCells_get l i hi
    rw [Nat.zero_add]
    exact ⟨hcell _ _ e1, hcell _ _ e2⟩
theorem ERow.keep {w w' : World} {base : Nat} {v : Value} {l : List EnT} (h : ERow w base v l) (hb : Below w.heap.size w w') : ERow w' base v l := by
  refine ⟨h.1, ?_⟩
  rcases h.2 with e | ⟨g, cap, cur, rfl, hbg, hg, r⟩
  · exact .inl e
  · exact .inr ⟨g, cap, cur, rfl, hbg, by rw [hb.block g (heap_lt hg)]; exact hg, r⟩
theorem ERow.alloc {w : World} {base : Nat} {v : Value} {l : List EnT} (h : ERow w base v l) (o : Obj) : ERow (w.alloc o) base v l := h.keep ((Below.refl _ _).alloc (Nat.le_refl _) o)
theorem ERow.mono {w : World} {base base' : Nat} {v : Value} {l : List EnT} (h : ERow w base v l) (hb : base' ≤ base) : ERow w base' v l := by
  refine ⟨h.1, ?_⟩
  rcases h.2 with e | ⟨g, cap, cur, rfl, hbg, r⟩
  · exact .inl e
  · exact .inr ⟨g, cap, cur, rfl, by omega, r⟩
theorem ERow.bel {w w' w0 : World} {B base : Nat} {v : Value} {l : List EnT} (hb : Below B w0 w) (hs : B ≤ w.heap.size) (hown : ERow w base v l) (hB : B ≤ base) (g : w.grownBy w' v.ownBlock) : Below B w0 w' :=
  hb.grown g hs (fun k hk => Nat.le_trans hB (World.ownsRow.lt hown k hk).1)
theorem en_lit {w : World} {b : Nat} {l : List EnT} (h : w.heap[b]? = some (.cells (enCells l).toArray 87 (0, 0))) (hn : l.length ≤ 1000) : EnAt w (some ⟨b, 0, none⟩) l.length l.length l := by
  refine ⟨rfl, Nat.le_refl _, by omega, .inr ⟨b, 0, rfl, heap_lt h, fun i hi => ?_⟩⟩
  obtain ⟨e1, e2⟩ := enCells_get l i hi
  rw [Nat.zero_add, cell_of h, cell_of h]
  exact ⟨by simpa using e1, by simpa using e2⟩
theorem EnAt.src {w : World} {a : Option Addr} {n c : Nat} {l : List EnT} (h : EnAt w a n c l) (ad : Addr) (e : a = some ad) : ∀ j u, (enCells l)[j]? = some u → w.cell? (ad.add j) = some u := by
  intro j u hj
  have hjl : j < l.length * 2 := by have := (List.getElem?_eq_some_iff.1 hj).1; rw [enCells_length] at this; exact this
  obtain ⟨b, off, e', _, h0, h1⟩ := h.at_ (j / 2) (by rw [← h.1]; omega)
  rw [e] at e'
  simp only [Option.some.injEq] at e'
  subst e'
  obtain ⟨g0, g1⟩ := enCells_get l (j / 2) (by omega)
  rw [show Addr.add ⟨b, off, none⟩ j = ⟨b, off + j, none⟩ from by simp [Addr.add]]
  rcases Nat.mod_two_eq_zero_or_one j with e0 | e0
  · have ej : j = j / 2 * 2 := by omega
    rw [ej] at hj
    rw [g0] at hj
    rw [ej, h0]; exact hj
  · have ej : j = j / 2 * 2 + 1 := by omega
    rw [ej] at hj
    rw [g1] at hj
    rw [ej, ← Nat.add_assoc, h1]; exact hj

theorem wpList_append_en {w : World} {ops : Array Oper} {rest : List Oper} {o : Oper} {a : Act} {Q : Exit → Act → World → Prop} (hw : Region.wanted o (yielded ops a.tmps) = true) (s x : Operand)
    (ho : o.op = .call { callee := .builtin .append, args := #[s, x], argTypes := #[81, 81] })
    (base : Nat) (v : Value) (l : List EnT) (hs : a.eval s = v) (hown : ERow w base v l)
    (ax : Option Addr) (m c : Nat) (k : List EnT) (hx : a.eval x = .slice ax m c) (hl : EnAt w ax m c k) (hb : l.length + m ≤ 1048576) (hbase : base ≤ w.heap.size)
    (h : ∀ v' w', ERow w' base v' (l ++ k) → w.grownBy w' v.ownBlock → wpList Tryz.prog ops Q rest (a.put o.dst v') w') : wpList Tryz.prog ops Q (o :: rest) a w := by
  obtain ⟨i0, hi, hz0, hz1, hz2⟩ := info_parts info_en
  refine wpList_step fun K hK => ?_
  rw [if_pos hw]
  have hm := hl.1
  cases ax with
  | none =>
    have h0 : m = 0 := by
      rcases hl.2.2.2 with e | ⟨b, off, e, _⟩
      · exact e
      · cases e
    subst h0
    have e0 : k = [] := List.eq_nil_of_length_eq_zero hm
    subst e0
    have hrun := run_append_no (P := Tryz.prog) (w := w) base 81 o.type 87 i0 2 c Tryz.underlying81 hi v l.length _ hown
    unfold Oper.wp
    simp [execOp, ho, resolve, invoke, builtin, hs, hx, hrun, Result.andThen]
    refine hK _ _ (h v w ?_ (gb_refl _ _))
    simpa using hown
  | some ad =>
    refine wp_append_own w s x 81 ho base 87 i0 _ 2 40 Tryz.underlying81 hi hz0 hz1 hz2 rfl (by omega) v l.length _ hs hown ad m c (enCells k) hx (by rw [enCells_length, hm]) (hl.src ad rfl) (enCells_one k) (by unfold maxLen; omega) (by omega) hbase ?_
    intro v' w' h2 h3 _
    refine hK _ _ (h v' w' ?_ h3)
    unfold ERow
    rw [List.length_append, enCells_append, hm]; exact h2
theorem EnAt.one (w : World) (x : EnT) : EnAt (w.alloc (.cells #[.string (bs x.key), .slice x.a x.n x.c] 87)) (some ⟨w.heap.size, 0, none⟩) 1 1 [x] :=
  en_lit (l := [x]) (heap_new w _) (by simp)


end Go.Proofs.YtifjbbiphekmmaaGreatDoor
/-
  The document's index in memory: a row of entries; a world in which that index alone has turned.
-/
namespace Go.Proofs.YtifjbbiphekmmaaGreatDoor
open Go.RowKit
set_option linter.unusedVariables false
set_option linter.unusedSimpArgs false

def RxCell (w : World) (r : Nat) (s : Value) : Prop := w.heap[r]? = some (.cells #[s] 83 (0, 0))
theorem RxCell.c0 {w : World} {r : Nat} {s : Value} (h : RxCell w r s) : w.cell? ⟨r, 0, none⟩ = some s := by rw [cell_of h]; rfl
/-- The document's index: its entries. -/
structure RefAt (w : World) (r : Nat) (a : Option Addr) (n c : Nat) (T : List EnT) : Prop where
  cell : RxCell w r (.slice a n c)
  row : EnAt w a n c T
  ok : ∀ e ∈ T, LbAt w e.a e.n e.c e.l
theorem RefAt.trn {F : Nat → Prop} {w w' : World} (t : Trn F w w') {r : Nat} {a : Option Addr} {n c : Nat} {T : List EnT} (h : RefAt w r a n c T) : RefAt w' r a n c T :=
  ⟨t.cells _ _ _ _ h.cell, h.row.trn t, fun e he => (h.ok e he).trn t⟩
theorem RefAt.keep {w w' : World} {r : Nat} {a : Option Addr} {n c : Nat} {T : List EnT} (h : RefAt w r a n c T) (b : Below w.heap.size w w') : RefAt w' r a n c T := h.trn (F := fun _ => False) (.of b)
theorem RefAt.lt {w : World} {r : Nat} {a : Option Addr} {n c : Nat} {T : List EnT} (h : RefAt w r a n c T) : r < w.heap.size := heap_lt h.cell

/-- Of what was there, block r alone has turned. -/
structure Far (r : Nat) (w w' : World) : Prop where
  os : w'.os = w.os
  tape : w'.tape = w.tape
  output : w'.output = w.output
  size : w.heap.size ≤ w'.heap.size
  block : ∀ i, i < w.heap.size → i ≠ r → w'.heap[i]? = w.heap[i]?
theorem Far.of {r : Nat} {w w' : World} (h : Below w.heap.size w w') : Far r w w' := ⟨h.os, h.tape, h.output, h.size, fun i hi _ => h.block i hi⟩
theorem Far.grown {r : Nat} {w w' : World} (g : w.grownBy w' (some r)) : Far r w w' := ⟨g.os, g.tape, g.output, g.size, fun i hi e => g.block i hi (by simpa using e)⟩
theorem Far.trans {r : Nat} {a b c : World} (h : Far r a b) (k : Far r b c) : Far r a c :=
  ⟨k.os.trans h.os, k.tape.trans h.tape, k.output.trans h.output, Nat.le_trans h.size k.size, fun i hi e => (k.block i (Nat.lt_of_lt_of_le hi h.size) e).trans (h.block i hi e)⟩
theorem Far.below {r B : Nat} {w0 w w' : World} (hb : Below B w0 w) (hs : B ≤ w.heap.size) (h : Far r w w') (hr : B ≤ r) : Below B w0 w' :=
  ⟨h.os.trans hb.os, h.tape.trans hb.tape, h.output.trans hb.output, Nat.le_trans hb.size h.size, fun i hi => (h.block i (by omega) (by omega)).trans (hb.block i hi)⟩
theorem Far.str {r : Nat} {w w' : World} {a : Option Addr} {n c : Nat} (h : Far r w w') (hr : RxCell w r (.slice a n c)) {p : Addr} {s : ByteArray} (hc : w.cell? p = some (.string s)) : w'.cell? p = some (.string s) := by
  by_cases e : p.block = r
  · obtain ⟨b, off, spot⟩ := p
    have hs : spot = none := World.cell?_spot hc
    subst hs
    have e : b = r := e
    subst e
    rw [cell_of hr] at hc
    cases off with
    | zero => simp at hc
    | succ k => simp at hc
  · rw [World.cell?_of_block (w := w) (h.block p.block (World.block_lt_of_cell? w p hc) e)]; exact hc
theorem LbAt.far {r : Nat} {w w' : World} {a1 : Option Addr} {n1 c1 : Nat} (t : Far r w w') (hr : RxCell w r (.slice a1 n1 c1)) {a : Option Addr} {n c : Nat} {l : List Lb} (h : LbAt w a n c l) : LbAt w' a n c l := by
  obtain ⟨h1, h2, h3, h5⟩ := h
  refine ⟨h1, h2, h3, ?_⟩
  rcases h5 with h0 | ⟨b, off, rfl, hlt, hc⟩
  · exact .inl h0
  · exact .inr ⟨b, off, rfl, Nat.lt_of_lt_of_le hlt t.size, fun i hi => ⟨t.str hr (hc i hi).1, t.str hr (hc i hi).2⟩⟩
theorem IxAt.far {r : Nat} {w w' : World} {a1 : Option Addr} {n1 c1 : Nat} (t : Far r w w') (hr : RxCell w r (.slice a1 n1 c1)) {x bl bn : Nat} {ρ : Rho} {E : List Ent} (h : IxAt w x bl bn ρ E) : IxAt w' x bl bn ρ E := by
  have hm : ∀ i es c, w.heap[i]? = some (.map es c) → i ≠ r := fun i es c e e' => by rw [e'] at e; unfold RxCell at hr; rw [hr] at e; cases e
  have hx : x ≠ r := fun e => by
    have h1 := h.cell
    have h2 := hr
    unfold IxCell at h1
    unfold RxCell at h2
    rw [e, h2] at h1
    simp at h1
  have hbl : bl ≠ r := by
    obtain ⟨T, h1, _⟩ := h.labs
    obtain ⟨es, c, e⟩ := h1.isMap
    exact hm _ _ _ e
  have hF : ∀ i, FA ρ i → i ≠ r := fun i f => by
    cases e : ρ i with
    | none => exact absurd e f
    | some q =>
      obtain ⟨es, c, k⟩ := h.ok i q e
      exact hm _ _ _ k
  refine ⟨?_, h.rl, h.rn, ?_, ?_, fun i q e => ?_, h.good⟩
  · have h1 := h.cell
    unfold IxCell at *
    rw [t.block x (heap_lt h1) hx]; exact h1
  · obtain ⟨T, h1, h2, h3⟩ := h.labs
    refine ⟨T, h1.same (t.block bl h1.lt hbl), h2, fun p hp => ?_⟩
    obtain ⟨a, c, e, k⟩ := h3 p hp
    exact ⟨a, c, e, k.far t hr⟩
  · exact h.nams.same (t.block bn h.nams.lt (hF bn (by unfold FA; rw [h.rn]; simp))) (.refl _ _) (fun c hc f => t.block c hc (hF c f.a)) (fun _ _ _ => Iff.rfl)
  · obtain ⟨es, c, hb⟩ := h.ok i q e
    exact ⟨es, c, (t.block i (heap_lt hb) (hm _ _ _ hb)).trans hb⟩

/-! The entries' list. -/
theorem ents_len (T : List EnT) : (ents T).length = T.length := List.length_map ..
theorem ents_at {T : List EnT} {i : Nat} (h : i < T.length) : (ents T)[i]'(by rw [ents_len]; exact h) = (T[i].key, T[i].l) := by unfold ents; rw [List.getElem_map]; rfl
theorem en_get {T : List EnT} {i : Nat} (h : i < T.length) : eK T i = T[i].key ∧ eV T i = .slice T[i].a T[i].n T[i].c := by
  unfold eK eV
  rw [List.getD_eq_getElem?_getD, List.getElem?_eq_getElem h]
  exact ⟨rfl, rfl⟩
/-- An entry of the document's index, as it lies there. -/
theorem RefAt.at_ {w : World} {r : Nat} {a : Option Addr} {n c : Nat} {T : List EnT} (h : RefAt w r a n c T) (i : Nat) (hi : i < n) :
    ∃ b off, ∃ (hT : i < T.length), a = some ⟨b, off, none⟩ ∧ b < w.heap.size ∧ w.cell? ⟨b, off + i * 2, none⟩ = some (.string (bs T[i].key)) ∧ w.cell? ⟨b, off + i * 2 + 1, none⟩ = some (.slice T[i].a T[i].n T[i].c) ∧ LbAt w T[i].a T[i].n T[i].c T[i].l := by
  have hT : i < T.length := by rw [h.row.1]; exact hi
  obtain ⟨b, off, e, hb, h0, h1⟩ := h.row.at_ i hi
  rw [(en_get hT).1] at h0
  rw [(en_get hT).2] at h1
  exact ⟨b, off, hT, e, hb, h0, h1, h.ok _ (List.getElem_mem hT)⟩

end Go.Proofs.YtifjbbiphekmmaaGreatDoor
/-
  Contracts of the document's answers of layer 9 that read: Key, Right, Labels, Keys, Size, Find.
-/
namespace Go.Proofs.YtifjbbiphekmmaaGreatDoor
open Go.RowKit
set_option linter.unusedVariables false
set_option linter.unusedSimpArgs false

theorem rkey_any (s : Tx) (w : World) : Calls Tryz.prog 71 #[.string (bs s)] w fun e w' => e = .returned (.bool (decide (keyB s))) ∧ w = w' := by
  have hs := bs_size s
  by_cases h1 : 1 ≤ s.length
  · have h1z : decide ((1 : Int) ≤ ((bs s).size : Int)) = true := decide_eq_true (by omega)
    go_enter Tryz.func71, Tryz.ntmps71
    go_wp2
    go_ret
    exact ⟨ret_bool (decide_eq_decide.2 (by unfold keyB; omega)), rfl⟩
  · have h1z : decide ((1 : Int) ≤ ((bs s).size : Int)) = false := decide_eq_false (by omega)
    go_enter Tryz.func71, Tryz.ntmps71
    go_wp2
    go_ret
    exact ⟨ret_bool (decide_eq_false (by unfold keyB; omega)).symm, rfl⟩

theorem in_upto {l : List Lb} {n : Tx} {j : Nat} (hj : j ≤ l.length) : n ∈ keysL (l.take j) ↔ ∃ i, i < j ∧ lN l i = n := by
  constructor
  · intro h
    obtain ⟨x, hx, e⟩ := List.mem_map.1 h
    obtain ⟨i, hi, ex⟩ := List.getElem_of_mem hx
    rw [List.length_take] at hi
    have hi2 : i < l.length := by omega
    rw [List.getElem_take, lb_get hi2] at ex
    exact ⟨i, by omega, by rw [← e, ← ex]⟩
  · rintro ⟨i, hi, rfl⟩
    have hi2 : i < l.length := by omega
    refine List.mem_map.2 ⟨(lN l i, lV l i), ?_, rfl⟩
    have : i < (l.take j).length := by rw [List.length_take]; omega
    have e := List.getElem_mem this
    rw [List.getElem_take, lb_get hi2] at e
    exact e

set_option maxRecDepth 100000 in
set_option maxHeartbeats 2000000 in
theorem rright9_any (a : Option Addr) (n c : Nat) (l : List Lb) (w : World) (h : LbAt w a n c l) :
    Calls Tryz.prog 72 #[.slice a n c] w fun e w' => e = .returned (.bool (decide (rightL l))) ∧ Drew w w' := by
  have HN := Lib.hid h.1
  have h63 := h.2.2.1
  have HL := Lib.hid h
  have H0 := Lib.hid (show okUpto l 0 from ⟨by simp, by simp [keysL]⟩)
  clear h
  go_enter Tryz.func72, Tryz.ntmps72
  go_wp2
  go_loopw [3] (fun i wr => ∃ j : Nat, j ≤ n ∧ i = .int .i64 (j : Int) ∧ Hid (okUpto l j) ∧ Drew w wr) (fun i _ => n - (intOf i).toNat)
  case atStart => exact ⟨0, Nat.zero_le _, rfl, H0, 0, rfl⟩
  case round =>
    obtain ⟨j, hj, rfl, HO, hd⟩ := hrel
    clear H0
    by_cases hjn : j < n
    · have hjz : (j : Int) < (n : Int) := by omega
      have hj0 : (0 : Int) ≤ (j : Int) := by omega
      have hjl : j < l.length := by rw [HN.out]; exact hjn
      obtain ⟨p, o, rfl, hp, x0, x1⟩ := (HL.out.keep hd.bel).at_ j hjn
      have HK := Lib.hid (not_right_key hjl)
      have HK1 := Lib.hid (fun W => rkey_any (lN l j) W)
      have HK2 := Lib.hid (fun W => rkey_any (lV l j) W)
      by_cases k1 : keyB (lN l j)
      · rw [decide_eq_true k1] at HK1
        have HB1 := Lib.hid k1
        clear k1
        by_cases k2 : keyB (lV l j)
        · rw [decide_eq_true k2] at HK2
          have HB2 := Lib.hid k2
          clear k2
          have HD0 := Lib.hid (show ∀ i, i < 0 → lN l i ≠ lN l j from fun i hi => absurd hi (Nat.not_lt_zero i))
          go_wp2_with fail
          refine (HK1.out _).mono ?_
          rintro e w' ⟨rfl, rfl⟩
          go_wp2_with fail
          refine (HK2.out _).mono ?_
          rintro e w' ⟨rfl, rfl⟩
          go_wp2_with fail
          clear HK1 HK2 HK x0 x1
          obtain ⟨wo, rfl⟩ : ∃ wo : World, wo = wr := ⟨_, rfl⟩
          go_loopw [4] (fun i wr => ∃ k : Nat, k ≤ j ∧ i = .int .i64 (k : Int) ∧ Hid (∀ i, i < k → lN l i ≠ lN l j) ∧ Drew w wr) (fun i _ => j - (intOf i).toNat)
          case atStart => exact ⟨0, Nat.zero_le _, rfl, HD0, hd⟩
          case round =>
            clear HD0 hd
            obtain ⟨k, hk, rfl, HD, hd⟩ := hrel
            by_cases hkj : k < j
            · have hkz : (k : Int) < (j : Int) := by omega
              have hk0 : (0 : Int) ≤ (k : Int) := by omega
              have hkn : (k : Int) < (n : Int) := by omega
              obtain ⟨p2, o2, e1, hp2, y0, y1, x0, x1⟩ := (HL.out.keep hd.bel).two k j (by omega) hjn
              obtain ⟨rfl, rfl⟩ : p = p2 ∧ o = o2 := by simpa using e1
              clear e1 y1 x1
              have t1 := eq_bs (lN l k) (lN l j)
              by_cases he : lN l k = lN l j
              · have HF := Lib.hid (not_right_dup hjl ((in_upto (by omega)).2 ⟨k, hkj, he⟩))
                rw [decide_eq_true he] at t1
                clear he
                generalize bs (lN l k) = q1 at *
                generalize bs (lN l j) = q2 at *
                have z0 : ∀ q, (wr.drewN q).cell? ⟨p, o + k * 2, none⟩ = some (.string q1) := fun q => y0
                have z1 : ∀ q, (wr.drewN q).cell? ⟨p, o + j * 2, none⟩ = some (.string q2) := fun q => x0
                go_wp2
                go_quiet (fail)
                go_wp2
                go_ret
                exact ⟨ret_bool (decide_eq_false HF.out).symm, hd.trans ⟨_, rfl⟩⟩
              · have HD2 := Lib.hid (show ∀ i, i < k + 1 → lN l i ≠ lN l j from fun i hi => by
                  rcases Nat.lt_or_ge i k with h | h
                  · exact HD.out i h
                  · have : i = k := by omega
                    rw [this]; exact he)
                rw [decide_eq_false he] at t1
                clear he HD
                generalize bs (lN l k) = q1 at *
                generalize bs (lN l j) = q2 at *
                have z0 : ∀ q, (wr.drewN q).cell? ⟨p, o + k * 2, none⟩ = some (.string q1) := fun q => y0
                have z1 : ∀ q, (wr.drewN q).cell? ⟨p, o + j * 2, none⟩ = some (.string q2) := fun q => x0
                go_wp2
                go_quiet (fail)
                go_wp2
                go_roundw
                case rel => exact ⟨k + 1, by omega, by go_num, HD2, hd.trans ⟨_, rfl⟩⟩
                case measure => simp [intOf]; omega
            · have hkz : ¬ (k : Int) < (j : Int) := by omega
              obtain rfl : k = j := by omega
              have HO2 := Lib.hid (okUpto_snoc hjl HO.out HB1.out HB2.out (fun hm => by
                obtain ⟨i, hi, e⟩ := (in_upto (Nat.le_of_lt hjl)).1 hm
                exact HD.out i hi e))
              go_wp2
              go_roundw
              case rel => exact ⟨k + 1, by omega, by go_num, HO2, hd⟩
              case measure => simp [intOf]; omega
        · rw [decide_eq_false k2] at HK2
          have HF := Lib.hid (HK.out (fun h => k2 h.2))
          clear k2
          go_wp2_with fail
          refine (HK1.out _).mono ?_
          rintro e w' ⟨rfl, rfl⟩
          go_wp2_with fail
          refine (HK2.out _).mono ?_
          rintro e w' ⟨rfl, rfl⟩
          go_wp2
          go_ret
          exact ⟨ret_bool (decide_eq_false HF.out).symm, hd⟩
      · rw [decide_eq_false k1] at HK1
        have HF := Lib.hid (HK.out (fun h => k1 h.1))
        clear k1
        go_wp2_with fail
        refine (HK1.out _).mono ?_
        rintro e w' ⟨rfl, rfl⟩
        go_wp2
        go_ret
        exact ⟨ret_bool (decide_eq_false HF.out).symm, hd⟩
    · have hjz : ¬ (j : Int) < (n : Int) := by omega
      obtain rfl : j = n := by omega
      by_cases k8 : j ≤ 8
      · have HF := Lib.hid (show rightL l from right_all (by rw [HN.out]; exact k8) (by rw [HN.out]; exact HO.out))
        have k8z : (j : Int) ≤ 8 := by omega
        go_wp2
        go_ret
        exact ⟨ret_bool (decide_eq_true HF.out).symm, hd⟩
      · have HF := Lib.hid (show ¬ rightL l from fun h => k8 (by rw [← HN.out]; exact h.1))
        have k8z : ¬ (j : Int) ≤ 8 := by omega
        go_wp2
        go_ret
        exact ⟨ret_bool (decide_eq_false HF.out).symm, hd⟩

theorem key_ents {T : List EnT} {k : Tx} : k ∈ keysL (ents T) ↔ ∃ i, ∃ (h : i < T.length), T[i].key = k := by
  unfold keysL ents
  rw [List.map_map, List.mem_map]
  constructor
  · rintro ⟨e, he, rfl⟩
    obtain ⟨i, hi, rfl⟩ := List.getElem_of_mem he
    exact ⟨i, hi, rfl⟩
  · rintro ⟨i, hi, rfl⟩
    exact ⟨T[i], List.getElem_mem hi, rfl⟩
theorem ents_mem {T : List EnT} {i : Nat} (h : i < T.length) : (T[i].key, T[i].l) ∈ ents T := List.mem_map.2 ⟨T[i], List.getElem_mem h, rfl⟩


theorem size_snoc {T : List EnT} {j : Nat} (h : j < T.length) : sizeE (ents (T.take (j + 1))) = sizeE (ents (T.take j)) + T[j].l.length := by
  rw [List.take_succ_eq_append_getElem h]
  unfold sizeE ents
  rw [List.map_append, List.map_append, List.sum_append]; simp [EnT.ent]

theorem keys_snoc {T : List EnT} {j : Nat} (h : j < T.length) : keysL (ents (T.take (j + 1))) = keysL (ents (T.take j)) ++ [T[j].key] := by
  rw [List.take_succ_eq_append_getElem h]
  unfold keysL ents
  rw [List.map_append, List.map_append]; rfl


/-- What is found: by a name, or by a name and a value. -/
def gotE (b : Bool) (n v : Tx) (E : List Ent) : List Tx := if b then withE E n else findE E n v
def hitP (b : Bool) (n v : Tx) (l : List Lb) : Prop := if b then n ∈ keysL l else (n, v) ∈ l
instance (b : Bool) (n v : Tx) (l : List Lb) : Decidable (hitP b n v l) := by unfold hitP; exact inferInstance
theorem hit_zero (b : Bool) (n v : Tx) {l : List Lb} : ¬ hitP b n v (l.take 0) := by cases b <;> simp [hitP, keysL]
theorem hit_snoc (b : Bool) (n v : Tx) {l : List Lb} {k : Nat} (h : k < l.length) : hitP b n v (l.take (k + 1)) ↔ hitP b n v (l.take k) ∨ (lN l k = n ∧ (b = true ∨ lV l k = v)) := by
  rw [take_snoc9 h]
  cases b
  · unfold hitP
    simp only [Bool.false_eq_true, if_false, List.mem_append, List.mem_singleton, Prod.mk.injEq, false_or]
    exact or_congr Iff.rfl ⟨fun ⟨a, b⟩ => ⟨a.symm, b.symm⟩, fun ⟨a, b⟩ => ⟨a.symm, b.symm⟩⟩
  · unfold hitP keysL
    simp only [if_true, List.map_append, List.mem_append, List.map_cons, List.map_nil, List.mem_singleton, true_or, and_true]
    exact or_congr Iff.rfl eq_comm
theorem hit_not (b : Bool) {nm vl : Tx} {l : List Lb} (hn : (keysL l).Nodup) {k : Nat} (h : k < l.length) (e : lN l k = nm) : ¬ hitP b nm vl (l.take k) := by
  have h1 : nm ∉ keysL (l.take k) := fun hm => by
    obtain ⟨i, hi, e2⟩ := (in_upto (Nat.le_of_lt h)).1 hm
    have hi2 : i < l.length := by omega
    have e3 : (keysL l)[i]'(by unfold keysL; rw [List.length_map]; exact hi2) = (keysL l)[k]'(by unfold keysL; rw [List.length_map]; exact h) := by
      unfold keysL
      rw [List.getElem_map, List.getElem_map, lb_get hi2, lb_get h]
      exact e2.trans e.symm
    have := (List.getElem_inj hn).1 e3
    omega
  cases b
  · unfold hitP
    intro hm
    exact h1 (List.mem_map.2 ⟨_, by simpa using hm, rfl⟩)
  · unfold hitP
    simpa using h1
theorem got_snoc (b : Bool) (n v : Tx) {T : List EnT} {j : Nat} (h : j < T.length) : gotE b n v (ents (T.take (j + 1))) = gotE b n v (ents (T.take j)) ++ (if hitP b n v T[j].l then [T[j].key] else []) := by
  rw [List.take_succ_eq_append_getElem h]
  cases b
  · unfold gotE findE keysL ents hitP
    simp only [Bool.false_eq_true, if_false, List.map_append, List.filter_append, List.map_cons, List.map_nil, EnT.ent]
    congr 1
    by_cases hz : (n, v) ∈ T[j].l
    · rw [List.filter_cons_of_pos (by simpa using hz), if_pos hz]; rfl
    · rw [List.filter_cons_of_neg (by simpa using hz), if_neg hz]; rfl
  · unfold gotE withE ents hitP
    simp only [if_true, List.map_append, List.filter_append, List.map_cons, List.map_nil, EnT.ent]
    unfold keysL
    rw [List.map_append]
    congr 1
    by_cases hz : n ∈ List.map Prod.fst T[j].l
    · rw [List.filter_cons_of_pos (p := fun p : Ent => decide (n ∈ List.map Prod.fst p.2)) (decide_eq_true hz), if_pos hz]; rfl
    · rw [List.filter_cons_of_neg (by simpa using hz), if_neg hz]; rfl



end Go.Proofs.YtifjbbiphekmmaaGreatDoor
/-
  An operation of a region in whatever order is taken first: the law with the slot given by name.
-/
namespace Go.Proofs.YtifjbbiphekmmaaGreatDoor
open Go.RowKit
set_option linter.unusedVariables false
set_option linter.unusedSimpArgs false

section
variable {P : Program} {ops : Array Oper} {Q : Exit → Act → World → Prop} {md : Region.Mode} {S : World → Prop}
theorem take_on {i : Nat} {oi : Oper} {d : Option Tmp} {v : Value} {fuel : Nat} {listed l2 : Array Bool} {a a2 : Act} {w : World} (hi : ops[i]? = some oi)
    (hs : Region.noSelect ops = true) (hf : Region.free md ops listed i = true) (hr : (Region.ready md ops listed).contains i = true) (hd : oi.dst = d)
    (hQ : ∀ c a w, Q (.panic c) (a.put d v) w → Q (.panic c) a w) (hw : Region.wanted oi (yielded ops a.tmps) = true) (hy : ∀ w, S w → (execOp a.eval oi).run P w = .ok (.value v) w) (hS : S w)
    (hl : listed.setIfInBounds i true = l2) (ha : a.put d v = a2) (h : wpAnyH P md ops Q S fuel l2 a2 w) : wpAnyH P md ops Q S (fuel + 1) listed a w := by
  subst hd hl ha
  exact wpAnyH_take hi hs hf hr hQ (.inl ⟨hw, hy⟩) hS h
theorem take_off {i : Nat} {oi : Oper} {d : Option Tmp} {fuel : Nat} {listed l2 : Array Bool} {a a2 : Act} {w : World} (hi : ops[i]? = some oi)
    (hs : Region.noSelect ops = true) (hf : Region.free md ops listed i = true) (hr : (Region.ready md ops listed).contains i = true) (hd : oi.dst = d)
    (hQ : ∀ c a w, Q (.panic c) (a.put d undef) w → Q (.panic c) a w) (hw : Region.wanted oi (yielded ops a.tmps) = false) (hS : S w)
    (hl : listed.setIfInBounds i true = l2) (ha : a.put d undef = a2) (h : wpAnyH P md ops Q S fuel l2 a2 w) : wpAnyH P md ops Q S (fuel + 1) listed a w := by
  subst hd hl ha
  exact wpAnyH_take hi hs hf hr hQ (.inr ⟨hw, rfl⟩) hS h
end

end Go.Proofs.YtifjbbiphekmmaaGreatDoor
/-
  Contracts of the document's answers of layer 9 that build: Sorted, Drop, Set.
-/
namespace Go.Proofs.YtifjbbiphekmmaaGreatDoor
open Go.RowKit
set_option linter.unusedVariables false
set_option linter.unusedSimpArgs false

theorem insG_lt {x y : Lb} {L : List Lb} (h : y.1 < x.1) : insG x (y :: L) = y :: insG x L := if_pos h
theorem insG_ge {x y : Lb} {L : List Lb} (h : ¬ y.1 < x.1) : insG x (y :: L) = x :: y :: L := if_neg h
theorem lb_drop {l : List Lb} {j : Nat} (h : j < l.length) : l.drop j = (lN l j, lV l j) :: l.drop (j + 1) := by rw [← lb_get h]; exact List.drop_eq_getElem_cons h
theorem srt_snoc {l : List Lb} {j : Nat} (h : j < l.length) : srt (l.take (j + 1)) = insG (lN l j, lV l j) (srt (l.take j)) := by
  rw [take_snoc9 h]
  unfold srt
  rw [List.foldl_append]; rfl

set_option maxRecDepth 100000 in
set_option maxHeartbeats 8000000 in
theorem rsorted_any (a : Option Addr) (n c : Nat) (l : List Lb) (w : World) (h : LbAt w a n c l) (hr : ∀ x ∈ l, x.1.length ≤ 64) (hn : n ≤ 1000) :
    Calls Tryz.prog 75 #[.slice a n c] w fun e w' => ∃ v, e = .returned v ∧ LRow w' w.heap.size v (srt l) ∧ Below w.heap.size w w' := by
  have HL := Lib.hid h
  have HN := Lib.hid h.1
  have HR := Lib.hid hr
  have H0 := Lib.hid (show [] = srt (l.take 0) from rfl)
  clear h hr
  go_enter Tryz.func75, Tryz.ntmps75
  go_wp2_with fail
  go_loopw [3, 4] (fun vo vi wr => ∃ (j : Nat) (o : List Lb), vi = .int .i64 (j : Int) ∧ j ≤ n ∧ o.length = j ∧ Hid (LRow wr w.heap.size vo o) ∧ Hid (Below w.heap.size w wr) ∧ Hid (o = srt (l.take j))) (fun _ vi _ => n - (intOf vi).toNat)
  case atStart => exact ⟨0, [], rfl, Nat.zero_le _, rfl, Lib.hid (LRow.nil _ _), Lib.hid (Below.refl _ _), H0⟩
  case round =>
    clear H0
    obtain ⟨j, o, rfl, hj, hol, HO, HBO, HS⟩ := hrel
    by_cases hjn : j < n
    · have hjz : (j : Int) < (n : Int) := by omega
      have hj0 : (0 : Int) ≤ (j : Int) := by omega
      have hjl : j < l.length := by rw [HN.out]; exact hjn
      have HSN := Lib.hid (show insG (lN l j, lV l j) o = srt (l.take (j + 1)) from by rw [srt_snoc hjl, HS.out])
      have HX := Lib.hid (HR.out _ (lb_mem hjl))
      have HSH := Lib.hid (show ∀ y ∈ o, y.1.length ≤ 64 from fun y hy => by
        rw [HS.out] at hy
        exact HR.out y (List.mem_of_mem_take (mem_srt.1 hy)))
      obtain ⟨ao, co, rfl, to⟩ := HO.out.shape
      rw [hol] at to
      rw [hol]
      have TO := Lib.hid to
      obtain ⟨pb, po, rfl, hpb, y0, y1⟩ := (HL.out.keep HBO.out).at_ j hjn
      have hpw : pb < wr.heap.size := hpb
      generalize lN l j = xn at *
      generalize lV l j = xv at *
      have HY0 := Lib.hid y0
      have HY1 := Lib.hid y1
      have HI0 := Lib.hid (show ([] : List Lb) ++ insG (xn, xv) (o.drop 0) = insG (xn, xv) o from rfl)
      clear hjl y0 y1 to HO HS
      obtain ⟨wo, hwo⟩ : ∃ wo : World, wo = wr := ⟨_, rfl⟩
      have HWR := Lib.hid (Below.refl wr.heap.size wr)
      go_wp2_with fail
      subst hwo
      go_loopw [5, 6] (fun vx vk wr => ∃ (k : Nat) (nx : List Lb), vk = .int .i64 (k : Int) ∧ k ≤ j ∧ nx.length = k ∧ Hid (LRow wr wo.heap.size vx nx) ∧ Hid (Below wo.heap.size wo wr) ∧ Hid (nx ++ insG (xn, xv) (o.drop k) = insG (xn, xv) o)) (fun _ vk _ => j - (intOf vk).toNat)
      case atStart => exact ⟨0, [], rfl, Nat.zero_le _, rfl, Lib.hid (LRow.nil _ _), HWR, HI0⟩
      case round =>
        clear HWR HI0
        obtain ⟨k, nx, rfl, hk, hnl, HOn, HBn, HM⟩ := hrel
        have z0 : wr.cell? ⟨pb, po + j * 2, none⟩ = some (.string (bs xn)) := (HBn.out.cell (p := ⟨pb, po + j * 2, none⟩) hpw).trans HY0.out
        have z1 : wr.cell? ⟨pb, po + j * 2 + 1, none⟩ = some (.string (bs xv)) := (HBn.out.cell (p := ⟨pb, po + j * 2 + 1, none⟩) hpw).trans HY1.out
        have T1 := TO.out.keep HBn.out
        by_cases hkj : k < j
        · have hkz : (k : Int) < (j : Int) := by omega
          have hk0 : (0 : Int) ≤ (k : Int) := by omega
          have hko : k < o.length := by rw [hol]; exact hkj
          obtain ⟨qb, qo, e1, hqb, x0, x1⟩ := T1.at_ k hkj
          have HD := Lib.hid (lb_drop hko)
          have HQ := Lib.hid (HSH.out _ (lb_mem hko))
          have HBL := Lib.hid (fun W => rbelow_any (lN o k) xn W (by have : (lN o k).length ≤ 64 := HQ.out; omega) (by have : xn.length ≤ 64 := HX.out; omega))
          obtain ⟨a3, hs3, T3⟩ := TO.out.from_ k (by omega)
          have HT3 := Lib.hid T3
          subst e1
          have hbs : qb < wr.heap.size := hqb
          by_cases he : lN o k < xn
          · rw [decide_eq_true he] at HBL
            have HN2 := Lib.hid (show (nx ++ [(lN o k, lV o k)]) ++ insG (xn, xv) (o.drop (k + 1)) = insG (xn, xv) o from by rw [← HM.out, HD.out, insG_lt he, List.append_assoc]; rfl)
            clear he HM HD HQ T1 T3 hs3 HT3 hko
            generalize lN o k = yn at *
            generalize lV o k = yv at *
            go_wp2_with fail
            go_region_held3 (fun w' => w'.cell? ⟨qb, qo + k * 2, none⟩ = some (.string (bs yn)) ∧ w'.cell? ⟨pb, po + j * 2, none⟩ = some (.string (bs xn)))
              (first
                | exact d2.out
                | go_keep
                | fail)
              (first
                | (go_at_call 74
                   (with_reducible refine (HBL.out _).mono ?_)
                   rintro e W2 ⟨rfl, dr⟩
                   have b2 := (bel_drew (Below.refl wr.heap.size wr)).trans dr.bel
                   have d2 := Lib.hid (show W2.cell? ⟨qb, qo + k * 2, none⟩ = some (.string (bs yn)) ∧ W2.cell? ⟨pb, po + j * 2, none⟩ = some (.string (bs xn)) from ⟨(b2.cell (p := ⟨qb, qo + k * 2, none⟩) hbs).trans x0, (b2.cell (p := ⟨pb, po + j * 2, none⟩) (Nat.lt_of_lt_of_le hpw HBn.out.size)).trans z0⟩)
                   have B2 := Lib.hid b2
                   clear b2 dr)
                | fail)
            have u0 : W2.cell? ⟨qb, qo + k * 2, none⟩ = some (.string (bs yn)) := d2.out.1
            have u1 : W2.cell? ⟨qb, qo + k * 2 + 1, none⟩ = some (.string (bs yv)) := (B2.out.cell (p := ⟨qb, qo + k * 2 + 1, none⟩) hbs).trans x1
            have O1 := HOn.out.keep B2.out
            have B1 := HBn.out.trans (B2.out.mono HBn.out.size)
            have B0 := (Below.refl W2.heap.size W2).alloc (Nat.le_refl _) (.cells #[.string (bs yn), .string (bs yv)] 69)
            have HO2 := Lib.hid (O1.alloc (.cells #[.string (bs yn), .string (bs yv)] 69))
            have HT2 := Lib.hid (LbAt.one W2 (yn, yv))
            have HB2 := Lib.hid (B1.trans (B0.mono B1.size))
            clear B0 O1 B1 HOn HBn B2 d2 x0 x1 z0 z1
            go_wp2_with (at_builtin; refine wpList_append_lb rfl _ _ rfl wo.heap.size _ nx rfl HO2.out _ 1 1 [(yn, yv)] rfl HT2.out (by omega) HB2.out.size ?_)
            intro v3 W3 O3 g3
            have B3 := LRow.bel HB2.out HB2.out.size HO2.out (Nat.le_refl _) g3
            clear HO2 HB2 HT2 g3
            go_wp2
            go_roundw
            case rel => exact ⟨k + 1, _, by go_num, by omega, by rw [List.length_append, hnl]; rfl, Lib.hid O3, Lib.hid B3, HN2⟩
            case measure => simp [intOf]; omega
          · rw [decide_eq_false he] at HBL
            have HN2 := Lib.hid (show (nx ++ [(xn, xv)]) ++ o.drop k = insG (xn, xv) o from by rw [← HM.out, HD.out, insG_ge he, List.append_assoc]; rfl)
            clear he HM HD HQ T1 T3 hko
            generalize lN o k = yn at *
            generalize lV o k = yv at *
            go_wp2_with fail
            go_region_held3 (fun w' => w'.cell? ⟨qb, qo + k * 2, none⟩ = some (.string (bs yn)) ∧ w'.cell? ⟨pb, po + j * 2, none⟩ = some (.string (bs xn)))
              (first
                | exact d2.out
                | go_keep
                | fail)
              (first
                | (go_at_call 74
                   (with_reducible refine (HBL.out _).mono ?_)
                   rintro e W2 ⟨rfl, dr⟩
                   have b2 := (bel_drew (Below.refl wr.heap.size wr)).trans dr.bel
                   have d2 := Lib.hid (show W2.cell? ⟨qb, qo + k * 2, none⟩ = some (.string (bs yn)) ∧ W2.cell? ⟨pb, po + j * 2, none⟩ = some (.string (bs xn)) from ⟨(b2.cell (p := ⟨qb, qo + k * 2, none⟩) hbs).trans x0, (b2.cell (p := ⟨pb, po + j * 2, none⟩) (Nat.lt_of_lt_of_le hpw HBn.out.size)).trans z0⟩)
                   have B2 := Lib.hid b2
                   clear b2 dr)
                | fail)
            have u0 : W2.cell? ⟨pb, po + j * 2, none⟩ = some (.string (bs xn)) := d2.out.2
            have u1 : W2.cell? ⟨pb, po + j * 2 + 1, none⟩ = some (.string (bs xv)) := (B2.out.cell (p := ⟨pb, po + j * 2 + 1, none⟩) (Nat.lt_of_lt_of_le hpw HBn.out.size)).trans z1
            replace HOn := Lib.hid (HOn.out.keep B2.out)
            replace HBn := Lib.hid (HBn.out.trans (B2.out.mono HBn.out.size))
            clear B2 d2 x0 x1 z0 z1
            have O1 := HOn.out
            have B0 := (Below.refl W2.heap.size W2).alloc (Nat.le_refl _) (.cells #[.string (bs xn), .string (bs xv)] 69)
            have HO2 := Lib.hid (O1.alloc (.cells #[.string (bs xn), .string (bs xv)] 69))
            have HT2 := Lib.hid (LbAt.one W2 (xn, xv))
            have HB2 := Lib.hid (HBn.out.trans (B0.mono HBn.out.size))
            clear B0 O1 HOn HBn
            go_wp2_with (at_builtin; refine wpList_append_lb rfl _ _ rfl wo.heap.size _ nx rfl HO2.out _ 1 1 [(xn, xv)] rfl HT2.out (by omega) HB2.out.size ?_)
            intro v3 W3 O3 g3
            have B3 := LRow.bel HB2.out HB2.out.size HO2.out (Nat.le_refl _) g3
            have HT4 := Lib.hid (HT3.out.keep B3)
            have HO4 := Lib.hid O3
            have HB4 := Lib.hid B3
            clear HO2 HB2 HT2 g3 O3 B3 HT3
            go_wp2_with (at_builtin; refine wpList_append_lb rfl _ _ rfl wo.heap.size _ (nx ++ [(xn, xv)]) rfl HO4.out _ _ _ _ rfl HT4.out (by rw [List.length_append]; simp only [List.length_singleton]; omega) HB4.out.size ?_)
            intro v5 W5 O5 g5
            have B5 := LRow.bel HB4.out HB4.out.size HO4.out (Nat.le_refl _) g5
            replace O5 : LRow W5 wo.heap.size v5 (insG (xn, xv) o) := by rw [← HN2.out, List.append_assoc]; exact O5
            have O6 := Lib.hid (O5.mono HBO.out.size)
            have B6 := Lib.hid (HBO.out.trans (B5.mono HBO.out.size))
            clear HO4 HB4 g5 HT4
            go_wp2
            go_roundw
            case rel => exact ⟨j + 1, insG (xn, xv) o, by go_num, by omega, by rw [insG_len, hol], O6, B6, HSN⟩
            case measure => simp [intOf]; omega
        · have hkz : ¬ (k : Int) < (j : Int) := by omega
          obtain rfl : k = j := by omega
          have HN2 := Lib.hid (show (nx ++ [(xn, xv)]) ++ o.drop k = insG (xn, xv) o from by
            rw [← HM.out, List.drop_eq_nil_of_le (by omega), List.append_nil]; rfl)
          obtain ⟨a3, hs3, T3⟩ := TO.out.from_ k (by omega)
          rw [Nat.sub_self] at hs3 T3
          have HT3 := Lib.hid T3
          have u0 : wr.drew.cell? ⟨pb, po + k * 2, none⟩ = some (.string (bs xn)) := z0
          have u1 : wr.drew.cell? ⟨pb, po + k * 2 + 1, none⟩ = some (.string (bs xv)) := z1
          have BD := bel_drew (Below.refl wr.heap.size wr)
          replace HOn := Lib.hid (HOn.out.keep BD)
          replace HBn := Lib.hid (HBn.out.trans (BD.mono HBn.out.size))
          clear HM T3 T1 BD z0 z1
          go_wp2_with fail
          refine wp_region_held_drew (S := fun _ => True) (by kernel_rfl) trivial (fun hHeld => ?_)
          refine take_on (i := 0) (d := some 13) (v := .int .i64 (k : Int)) rfl (by kernel_rfl) (by kernel_rfl) (by kernel_rfl) rfl (fun _ _ _ h => h) (by kernel_rfl) (by intro w hSw; clear hSw; go_simp) (by assumption) rfl rfl ?_
          (try simp only [Act.put, List.setIfInBounds_toArray, List.set_cons_zero, List.set_cons_succ])
          refine take_on (i := 1) (d := some 14) (v := .slice ao k co) rfl (by kernel_rfl) (by kernel_rfl) (by kernel_rfl) rfl (fun _ _ _ h => h) (by kernel_rfl) (by intro w hSw; clear hSw; go_simp) (by assumption) rfl rfl ?_
          (try simp only [Act.put, List.setIfInBounds_toArray, List.set_cons_zero, List.set_cons_succ])
          refine take_on (i := 2) (d := some 15) (v := .int .i64 (k : Int)) rfl (by kernel_rfl) (by kernel_rfl) (by kernel_rfl) rfl (fun _ _ _ h => h) (by kernel_rfl) (by intro w hSw; clear hSw; go_simp) (by assumption) rfl rfl ?_
          (try simp only [Act.put, List.setIfInBounds_toArray, List.set_cons_zero, List.set_cons_succ])
          refine take_on (i := 3) (d := some 16) (v := .bool false) rfl (by kernel_rfl) (by kernel_rfl) (by kernel_rfl) rfl (fun _ _ _ h => h) (by kernel_rfl) (by intro w hSw; clear hSw; go_simp) (by assumption) rfl rfl ?_
          (try simp only [Act.put, List.setIfInBounds_toArray, List.set_cons_zero, List.set_cons_succ])
          refine take_on (i := 4) (d := some 17) (v := .bool false) rfl (by kernel_rfl) (by kernel_rfl) (by kernel_rfl) rfl (fun _ _ _ h => h) (by kernel_rfl) (by intro w hSw; clear hSw; go_simp) (by assumption) rfl rfl ?_
          (try simp only [Act.put, List.setIfInBounds_toArray, List.set_cons_zero, List.set_cons_succ])
          refine take_off (i := 5) (d := some 18) rfl (by kernel_rfl) (by kernel_rfl) (by kernel_rfl) rfl (fun _ _ _ h => h) (by kernel_rfl) (by assumption) rfl rfl ?_
          (try simp only [Act.put, List.setIfInBounds_toArray, List.set_cons_zero, List.set_cons_succ])
          refine take_off (i := 6) (d := some 19) rfl (by kernel_rfl) (by kernel_rfl) (by kernel_rfl) rfl (fun _ _ _ h => h) (by kernel_rfl) (by assumption) rfl rfl ?_
          (try simp only [Act.put, List.setIfInBounds_toArray, List.set_cons_zero, List.set_cons_succ])
          refine take_off (i := 7) (d := some 20) rfl (by kernel_rfl) (by kernel_rfl) (by kernel_rfl) rfl (fun _ _ _ h => h) (by kernel_rfl) (by assumption) rfl rfl ?_
          (try simp only [Act.put, List.setIfInBounds_toArray, List.set_cons_zero, List.set_cons_succ])
          refine take_off (i := 8) (d := some 21) rfl (by kernel_rfl) (by kernel_rfl) (by kernel_rfl) rfl (fun _ _ _ h => h) (by kernel_rfl) (by assumption) rfl rfl ?_
          (try simp only [Act.put, List.setIfInBounds_toArray, List.set_cons_zero, List.set_cons_succ])
          refine take_off (i := 9) (d := some 22) rfl (by kernel_rfl) (by kernel_rfl) (by kernel_rfl) rfl (fun _ _ _ h => h) (by kernel_rfl) (by assumption) rfl rfl ?_
          (try simp only [Act.put, List.setIfInBounds_toArray, List.set_cons_zero, List.set_cons_succ])
          refine take_off (i := 10) (d := some 23) rfl (by kernel_rfl) (by kernel_rfl) (by kernel_rfl) rfl (fun _ _ _ h => h) (by kernel_rfl) (by assumption) rfl rfl ?_
          (try simp only [Act.put, List.setIfInBounds_toArray, List.set_cons_zero, List.set_cons_succ])
          refine take_off (i := 11) (d := some 24) rfl (by kernel_rfl) (by kernel_rfl) (by kernel_rfl) rfl (fun _ _ _ h => h) (by kernel_rfl) (by assumption) rfl rfl ?_
          (try simp only [Act.put, List.setIfInBounds_toArray, List.set_cons_zero, List.set_cons_succ])
          refine take_off (i := 12) (d := some 25) rfl (by kernel_rfl) (by kernel_rfl) (by kernel_rfl) rfl (fun _ _ _ h => h) (by kernel_rfl) (by assumption) rfl rfl ?_
          (try simp only [Act.put, List.setIfInBounds_toArray, List.set_cons_zero, List.set_cons_succ])
          refine take_off (i := 13) (d := some 26) rfl (by kernel_rfl) (by kernel_rfl) (by kernel_rfl) rfl (fun _ _ _ h => h) (by kernel_rfl) (by assumption) rfl rfl ?_
          (try simp only [Act.put, List.setIfInBounds_toArray, List.set_cons_zero, List.set_cons_succ])
          refine take_off (i := 14) (d := some 27) rfl (by kernel_rfl) (by kernel_rfl) (by kernel_rfl) rfl (fun _ _ _ h => h) (by kernel_rfl) (by assumption) rfl rfl ?_
          (try simp only [Act.put, List.setIfInBounds_toArray, List.set_cons_zero, List.set_cons_succ])
          refine take_off (i := 15) (d := some 28) rfl (by kernel_rfl) (by kernel_rfl) (by kernel_rfl) rfl (fun _ _ _ h => h) (by kernel_rfl) (by assumption) rfl rfl ?_
          (try simp only [Act.put, List.setIfInBounds_toArray, List.set_cons_zero, List.set_cons_succ])
          refine take_on (i := 16) (d := some 29) (v := .bool false) rfl (by kernel_rfl) (by kernel_rfl) (by kernel_rfl) rfl (fun _ _ _ h => h) (by kernel_rfl) (by intro w hSw; clear hSw; kernel_rfl) (by assumption) rfl rfl ?_
          (try simp only [Act.put, List.setIfInBounds_toArray, List.set_cons_zero, List.set_cons_succ])
          refine wpAnyH_done (by kernel_rfl) ?_ _
          generalize wr.drew = W2 at *
          have O1 := HOn.out
          have B0 := (Below.refl W2.heap.size W2).alloc (Nat.le_refl _) (.cells #[.string (bs xn), .string (bs xv)] 69)
          have HO2 := Lib.hid (O1.alloc (.cells #[.string (bs xn), .string (bs xv)] 69))
          have HT2 := Lib.hid (LbAt.one W2 (xn, xv))
          have HB2 := Lib.hid (HBn.out.trans (B0.mono HBn.out.size))
          clear B0 O1 HOn HBn
          go_wp2_with (at_builtin; refine wpList_append_lb rfl _ _ rfl wo.heap.size _ nx rfl HO2.out _ 1 1 [(xn, xv)] rfl HT2.out (by omega) HB2.out.size ?_)
          intro v3 W3 O3 g3
          have B3 := LRow.bel HB2.out HB2.out.size HO2.out (Nat.le_refl _) g3
          have HT4 := Lib.hid (HT3.out.keep B3)
          have HO4 := Lib.hid O3
          have HB4 := Lib.hid B3
          clear HO2 HB2 HT2 g3 O3 B3 HT3
          go_wp2_with (at_builtin; refine wpList_append_lb rfl _ _ rfl wo.heap.size _ (nx ++ [(xn, xv)]) rfl HO4.out _ _ _ _ rfl HT4.out (by rw [List.length_append]; simp only [List.length_singleton]; omega) HB4.out.size ?_)
          intro v5 W5 O5 g5
          have B5 := LRow.bel HB4.out HB4.out.size HO4.out (Nat.le_refl _) g5
          replace O5 : LRow W5 wo.heap.size v5 (insG (xn, xv) o) := by rw [← HN2.out, List.append_assoc]; exact O5
          have O6 := Lib.hid (O5.mono HBO.out.size)
          have B6 := Lib.hid (HBO.out.trans (B5.mono HBO.out.size))
          clear HO4 HB4 g5 HT4
          go_wp2
          go_roundw
          case rel => exact ⟨k + 1, insG (xn, xv) o, by go_num, by omega, by rw [insG_len, hol], O6, B6, HSN⟩
          case measure => simp [intOf]; omega
    · have hjz : ¬ (j : Int) < (n : Int) := by omega
      obtain rfl : j = n := by omega
      rw [List.take_of_length_le (by rw [HN.out]; exact Nat.le_refl _)] at HS
      go_wp2
      go_ret
      exact ⟨_, rfl, by rw [← HS.out]; exact HO.out, HBO.out⟩

end Go.Proofs.YtifjbbiphekmmaaGreatDoor
/-
  Contracts of the document's index that turn it: Drop, Set.
-/
namespace Go.Proofs.YtifjbbiphekmmaaGreatDoor
open Go.RowKit
set_option linter.unusedVariables false
set_option linter.unusedSimpArgs false

theorem rx_set {w : World} {r : Nat} {s : Value} (h : RxCell w r s) (v : Value) : RxCell (w.setCell ⟨r, 0, none⟩ v) r v := by
  have hl := heap_lt h
  unfold RxCell at *
  simp [World.setCell, Array.getElem?_modify, h]
theorem EnAt.far {r : Nat} {w w' : World} {a1 : Option Addr} {n1 c1 : Nat} (t : Far r w w') (hr : RxCell w r (.slice a1 n1 c1)) {a : Option Addr} {n c : Nat} {T : List EnT} (h : EnAt w a n c T) : EnAt w' a n c T := by
  obtain ⟨h1, h2, h3, h5⟩ := h
  refine ⟨h1, h2, h3, ?_⟩
  rcases h5 with h0 | ⟨b, off, rfl, hlt, hc⟩
  · exact .inl h0
  · by_cases h0 : n = 0
    · exact .inl h0
    · have hb : b ≠ r := fun e => by
        have h6 := (hc 0 (by omega)).1
        subst e
        rw [cell_of hr] at h6
        cases hk : off + 0 * 2 with
        | zero => rw [hk] at h6; simp at h6
        | succ k => rw [hk] at h6; simp at h6
      have hw : ∀ o, w'.cell? ⟨b, o, none⟩ = w.cell? ⟨b, o, none⟩ := fun o => World.cell?_of_block (w := w) (t.block b hlt hb)
      exact .inr ⟨b, off, rfl, Nat.lt_of_lt_of_le hlt t.size, fun i hi => ⟨(hw _).trans (hc i hi).1, (hw _).trans (hc i hi).2⟩⟩
/-- What a call that turns the document's index leaves. -/
def RefP (w : World) (r : Nat) (v : Value) (E : List Ent) (e : Ending) (w' : World) : Prop := e = .returned v ∧ ∃ a n c T, RefAt w' r a n c T ∧ ents T = E ∧ Far r w w'
theorem ref_done {w0 w : World} {r : Nat} {a1 : Option Addr} {n1 c1 : Nat} (hb : Below w0.heap.size w0 w) (hr : RxCell w r (.slice a1 n1 c1)) {a : Option Addr} {n c : Nat} {T : List EnT} (hT : EnAt w a n c T) (hk : ∀ e ∈ T, LbAt w e.a e.n e.c e.l) :
    RefAt (w.setCell ⟨r, 0, none⟩ (.slice a n c)) r a n c T ∧ Far r w0 (w.setCell ⟨r, 0, none⟩ (.slice a n c)) := by
  have f : Far r w (w.setCell ⟨r, 0, none⟩ (.slice a n c)) := .grown (gb_set (gb_refl _ _) _ _)
  exact ⟨⟨rx_set hr _, hT.far f hr, fun e he => (hk e he).far f hr⟩, (Far.of hb).trans f⟩

def filt (key : Tx) (T : List EnT) : List EnT := T.filter fun e => decide (e.key ≠ key)
theorem ents_filt (key : Tx) (T : List EnT) : ents (filt key T) = dels (ents T) key := by
  unfold ents filt dels
  rw [List.filter_map]; rfl
theorem filt_snoc (key : Tx) {T : List EnT} {j : Nat} (h : j < T.length) : filt key (T.take (j + 1)) = filt key (T.take j) ++ (if T[j].key = key then [] else [T[j]]) := by
  rw [List.take_succ_eq_append_getElem h]
  unfold filt
  rw [List.filter_append]
  congr 1
  by_cases hz : T[j].key = key
  · rw [List.filter_cons_of_neg (by simpa using hz), if_pos hz]; rfl
  · rw [List.filter_cons_of_pos (by simpa using hz), if_neg hz]; rfl
theorem filt_less (key : Tx) (T : List EnT) : (filt key T).length < T.length ↔ key ∈ keysL (ents T) := by
  constructor
  · intro h
    by_cases hk : key ∈ keysL (ents T)
    · exact hk
    · have e := congrArg List.length (dels_absent hk)
      rw [← ents_filt, ents_len, ents_len] at e
      omega
  · intro h
    obtain ⟨i, hi, e⟩ := key_ents.1 h
    unfold filt
    rw [← Nat.not_le]
    intro hle
    have h2 := List.length_filter_le (fun e : EnT => decide (e.key ≠ key)) T
    have h3 := (List.length_filter_eq_length_iff).1 (Nat.le_antisymm h2 hle) T[i] (List.getElem_mem hi)
    simp at h3
    exact h3 e

set_option maxRecDepth 100000 in
set_option maxHeartbeats 4000000 in
theorem rdrop_any (w : World) (r : Nat) (a : Option Addr) (n c : Nat) (T : List EnT) (key : Tx) (h : RefAt w r a n c T) (hn : n ≤ 1000) :
    Calls Tryz.prog 73 #[.pointer (some ⟨r, 0, none⟩), .string (bs key)] w (RefP w r (.bool (decide (key ∈ keysL (ents T)))) (dels (ents T) key)) := by
  have HR := Lib.hid h
  have HL := Lib.hid h.row.1
  clear h
  go_enter Tryz.func73, Tryz.ntmps73
  go_wp2_with fail
  go_loopw [5, 6] (fun vo vi wr => ∃ (j : Nat) (o : List EnT), vi = .int .i64 (j : Int) ∧ j ≤ n ∧ o.length ≤ j ∧ Hid (ERow wr w.heap.size vo o) ∧ Hid (Below w.heap.size w wr) ∧ Hid (o = filt key (T.take j))) (fun _ vi _ => n - (intOf vi).toNat)
  case atStart => exact ⟨0, [], rfl, Nat.zero_le _, Nat.le_refl _, Lib.hid (ERow.nil _ _), Lib.hid (Below.refl _ _), Lib.hid rfl⟩
  case round =>
    obtain ⟨j, o, rfl, hj, hol, HO, HB, HM⟩ := hrel
    have R1 := HR.out.keep HB.out
    have c0 := R1.cell.c0
    by_cases hjn : j < n
    · have hjz : (j : Int) < (n : Int) := by omega
      have hj0 : (0 : Int) ≤ (j : Int) := by omega
      obtain ⟨p, q, hT, rfl, hp, x0, x1, hl⟩ := R1.at_ j hjn
      have HSN := Lib.hid (filt_snoc key hT)
      have t1 := eq_bs T[j].key key
      by_cases he : T[j].key = key
      · have HM2 := Lib.hid (show o = filt key (T.take (j + 1)) from by rw [HSN.out, if_pos he, List.append_nil, HM.out])
        have tb : ((bs T[j].key).toList != (bs key).toList) = false := by rw [bne_eq_false_iff_eq, he]
        rw [decide_eq_true he] at t1
        clear hl R1 HM HSN he
        generalize T[j] = e at *
        obtain ⟨y, ya, yn, yc, l⟩ := e
        have x0 : wr.cell? ⟨p, q + j * 2, none⟩ = some (.string (bs y)) := x0
        have t1 : ((bs y).toList == (bs key).toList) = true := t1
        generalize bs y = sy at *
        go_wp2
        go_roundw
        case rel => exact ⟨j + 1, o, by go_num, by omega, by omega, HO, HB, HM2⟩
        case measure => simp [intOf]; omega
      · have HM2 := Lib.hid (show o ++ [T[j]] = filt key (T.take (j + 1)) from by rw [HSN.out, if_neg he, HM.out])
        rw [decide_eq_false he] at t1
        clear hl R1 HM HSN he
        generalize T[j] = e at *
        obtain ⟨y, ya, yn, yc, l⟩ := e
        have x0 : wr.cell? ⟨p, q + j * 2, none⟩ = some (.string (bs y)) := x0
        have x1 : wr.cell? ⟨p, q + j * 2 + 1, none⟩ = some (.slice ya yn yc) := x1
        have t1 : ((bs y).toList == (bs key).toList) = false := t1
        have B0 := (Below.refl wr.heap.size wr).alloc (Nat.le_refl _) (.cells #[.string (bs y), .slice ya yn yc] 87)
        have HO2 := Lib.hid (HO.out.alloc (.cells #[.string (bs y), .slice ya yn yc] 87))
        have HT2 := Lib.hid (EnAt.one wr ⟨y, ya, yn, yc, l⟩)
        have HB2 := Lib.hid (HB.out.trans (B0.mono HB.out.size))
        clear B0 HO HB
        go_wp2_with (at_builtin; refine wpList_append_en rfl _ _ rfl w.heap.size _ o rfl HO2.out _ 1 1 [⟨y, ya, yn, yc, l⟩] rfl HT2.out (by omega) HB2.out.size ?_)
        intro v3 W3 O3 g3
        have B3 := ERow.bel HB2.out HB2.out.size HO2.out (Nat.le_refl _) g3
        clear HO2 HB2 HT2 g3
        go_wp2
        go_roundw
        case rel => exact ⟨j + 1, _, by go_num, by omega, by rw [List.length_append, List.length_singleton]; omega, Lib.hid O3, Lib.hid B3, HM2⟩
        case measure => simp [intOf]; omega
    · have hjz : ¬ (j : Int) < (n : Int) := by omega
      obtain rfl : j = n := by omega
      rw [List.take_of_length_le (by rw [HL.out]; exact Nat.le_refl _)] at HM
      have HC := Lib.hid R1.cell
      have f0 := frozen_of (o := 0) R1.cell
      obtain ⟨ao, co, rfl, to⟩ := HO.out.shape
      have HTO := Lib.hid to
      have HLS := Lib.hid (filt_less key T)
      have HOK := Lib.hid (show ∀ e ∈ o, LbAt wr e.a e.n e.c e.l from fun e he => R1.ok e (by rw [HM.out] at he; exact (List.mem_filter.1 he).1))
      have HE := Lib.hid (show ents o = dels (ents T) key from by rw [HM.out, ents_filt])
      rw [← HM.out, HL.out] at HLS
      obtain ⟨no, hno⟩ : ∃ no, o.length = no := ⟨_, rfl⟩
      have HNO := Lib.hid hno
      rw [hno] at HLS to
      rw [hno]
      have HTO := Lib.hid to
      clear hno R1 to HO HM
      by_cases hk : no < j
      · have HK := Lib.hid (HLS.out.1 hk)
        have hkz : (no : Int) < (j : Int) := by omega
        go_wp2
        go_ret
        obtain ⟨d1, d2⟩ := ref_done HB.out HC.out HTO.out HOK.out
        exact ⟨ret_bool (decide_eq_true HK.out).symm, ao, no, co, o, d1, HE.out, d2⟩
      · have HK := Lib.hid (show key ∉ keysL (ents T) from fun h => hk (HLS.out.2 h))
        have hkz : ¬ (no : Int) < (j : Int) := by omega
        go_wp2
        go_ret
        obtain ⟨d1, d2⟩ := ref_done HB.out HC.out HTO.out HOK.out
        exact ⟨ret_bool (decide_eq_false HK.out).symm, ao, no, co, o, d1, HE.out, d2⟩

/-- The row of labels stands in another block than the row of entries. -/
theorem LRow.aside {w w' : World} {base b2 : Nat} {v v2 : Value} {l : List Lb} {T : List EnT} (h : LRow w base v l) (ho : ERow w b2 v2 T) (g : w.grownBy w' v2.ownBlock) : LRow w' base v l := by
  refine ⟨h.1, ?_⟩
  rcases h.2 with e | ⟨b, cap, cur, rfl, hbg, hb, r⟩
  · exact .inl e
  · refine .inr ⟨b, cap, cur, rfl, hbg, ?_, r⟩
    rw [g.block b (heap_lt hb) (fun e => ?_)]
    · exact hb
    · rcases ho.2 with ⟨rfl, _⟩ | ⟨g2, cap2, cur2, rfl, _, hg2, _⟩
      · cases e
      · have e2 : g2 = b := by simpa [Value.ownBlock, eq_comm] using e
        subst e2
        rw [hb] at hg2
        simp at hg2
theorem insG_ltE {x y : Ent} {L : List Ent} (h : y.1 < x.1) : insG x (y :: L) = y :: insG x L := if_pos h
theorem insG_geE {x y : Ent} {L : List Ent} (h : ¬ y.1 < x.1) : insG x (y :: L) = x :: y :: L := if_neg h
theorem ents_drop {T : List EnT} {j : Nat} (h : j < T.length) : ents (T.drop j) = (T[j].key, T[j].l) :: ents (T.drop (j + 1)) := by
  rw [List.drop_eq_getElem_cons h]; rfl
theorem ents_app (A B : List EnT) : ents (A ++ B) = ents A ++ ents B := by unfold ents; rw [List.map_append]

set_option maxRecDepth 100000 in
set_option maxHeartbeats 8000000 in
theorem rset_any (w : World) (r : Nat) (a : Option Addr) (n c : Nat) (T : List EnT) (key : Tx) (a1 : Option Addr) (n1 c1 : Nat) (l : List Lb) (h : RefAt w r a n c T) (hl : LbAt w a1 n1 c1 l) (hn : n ≤ 1000) (hk : ∀ k ∈ keysL (ents T), k.length ≤ 64) :
    Calls Tryz.prog 49 #[.pointer (some ⟨r, 0, none⟩), .string (bs key), .slice a1 n1 c1] w (RefP w r (.int .i64 (if okE key l then 0 else 1)) (stepE key l (ents T))) := by
  have HR := Lib.hid h
  have HL := Lib.hid hl
  have HKL := Lib.hid hk
  have HK := Lib.hid (rkey_any key w)
  have HRG := Lib.hid (rright9_any a1 n1 c1 l w hl)
  clear h hl hk
  by_cases k1 : keyB key
  · rw [decide_eq_true k1] at HK
    by_cases k2 : rightL l
    · rw [decide_eq_true k2] at HRG
      have HOK := Lib.hid (show okE key l from ⟨k1, k2⟩)
      rw [if_pos HOK.out]
      clear k1 k2
      go_enter Tryz.func49, Tryz.ntmps49
      go_wp2_with fail
      refine HK.out.mono ?_
      rintro e w' ⟨rfl, rfl⟩
      go_wp2_with fail
      refine HRG.out.mono ?_
      rintro e w0 ⟨rfl, hd⟩
      have b0 := hd.bel
      have HR0 := Lib.hid (HR.out.keep b0)
      have B0 := Lib.hid b0
      clear hd b0 HK HRG
      go_wp2_with fail
      refine (rdrop_any w0 r a n c T key HR0.out hn).mono ?_
      rintro e w1 ⟨rfl, a', n', c', T1, r1, e1, f1⟩
      have hrr := HR0.out.cell
      have FW := Lib.hid ((Far.of (r := r) B0.out).trans f1)
      have LL := Lib.hid ((HL.out.keep B0.out).far f1 hrr)
      have HR1 := Lib.hid r1
      have hn' : n' ≤ 1000 := by
        rw [← r1.row.1, ← ents_len, e1]
        have h1 := dels_len (ents T) key
        rw [ents_len, HR0.out.row.1] at h1
        omega
      have HKL1 := Lib.hid (show ∀ e ∈ T1, e.key.length ≤ 64 from fun e he => HKL.out _ (by
        have h1 : e.key ∈ keysL (ents T1) := List.mem_map.2 ⟨e.ent, List.mem_map.2 ⟨e, he, rfl⟩, rfl⟩
        rw [e1] at h1
        exact (keys_dels.1 h1).1))
      have HL1 := Lib.hid r1.row.1
      have HE1 := Lib.hid e1
      have BW := Lib.hid (Below.refl w1.heap.size w1)
      have H0 := Lib.hid (show ents (T1.take 0) ++ insG (key, srt l) (ents (T1.drop 0)) = insG (key, srt l) (ents T1) from rfl)
      clear r1 e1 f1 hrr HR HL B0 HR0 HKL
      go_wp2_with fail
      go_loopw [7, 8] (fun vo vi wr => ∃ (j : Nat), vi = .int .i64 (j : Int) ∧ j ≤ n' ∧ Hid (ERow wr w1.heap.size vo (T1.take j)) ∧ Hid (Below w1.heap.size w1 wr) ∧ Hid (ents (T1.take j) ++ insG (key, srt l) (ents (T1.drop j)) = insG (key, srt l) (ents T1))) (fun _ vi _ => n' - (intOf vi).toNat)
      case atStart => exact ⟨0, rfl, Nat.zero_le _, Lib.hid (ERow.nil _ _), BW, H0⟩
      case round =>
        clear H0
        obtain ⟨j, rfl, hj, HOn, HBn, HM⟩ := hrel
        have R2 := HR1.out.keep HBn.out
        have c0 := R2.cell.c0
        obtain ⟨a3, hs3, t3⟩ := HR1.out.row.from_ j hj
        have HT3 := Lib.hid t3
        clear t3
        by_cases hjn : j < n'
        · have hjz : (j : Int) < (n' : Int) := by omega
          have hj0 : (0 : Int) ≤ (j : Int) := by omega
          obtain ⟨p, q0, hT, rfl, hp, x0, x1, hlj⟩ := R2.at_ j hjn
          have HBL := Lib.hid (fun W => rbelow_any T1[j].key key W (by have := HKL1.out _ (List.getElem_mem hT); omega) (by have := HOK.out.1.2; omega))
          by_cases he : T1[j].key < key
          · have HM2 := Lib.hid (show ents (T1.take (j + 1)) ++ insG (key, srt l) (ents (T1.drop (j + 1))) = insG (key, srt l) (ents T1) from by
              rw [← HM.out, ents_drop hT, insG_ltE he, List.take_succ_eq_append_getElem hT, ents_app, List.append_assoc]; rfl)
            have HTS := Lib.hid (show T1.take j ++ [T1[j]] = T1.take (j + 1) from (List.take_succ_eq_append_getElem hT).symm)
            rw [decide_eq_true he] at HBL
            clear he HM hlj R2 hs3 HT3
            generalize T1[j] = en at *
            obtain ⟨y, ya, yn, yc, yl⟩ := en
            have x0 : wr.cell? ⟨p, q0 + j * 2, none⟩ = some (.string (bs y)) := x0
            have x1 : wr.cell? ⟨p, q0 + j * 2 + 1, none⟩ = some (.slice ya yn yc) := x1
            go_wp2_with fail
            refine (HBL.out _).mono ?_
            rintro e W2 ⟨rfl, hd⟩
            have b2 := hd.bel
            have u0 : W2.cell? ⟨p, q0 + j * 2, none⟩ = some (.string (bs y)) := (b2.cell (p := ⟨p, q0 + j * 2, none⟩) hp).trans x0
            have u1 : W2.cell? ⟨p, q0 + j * 2 + 1, none⟩ = some (.slice ya yn yc) := (b2.cell (p := ⟨p, q0 + j * 2 + 1, none⟩) hp).trans x1
            have O1 := HOn.out.keep b2
            have B1 := HBn.out.trans (b2.mono HBn.out.size)
            have c2 := (HR1.out.keep B1).cell.c0
            have B0 := (Below.refl W2.heap.size W2).alloc (Nat.le_refl _) (.cells #[.string (bs y), .slice ya yn yc] 87)
            have HO2 := Lib.hid (O1.alloc (.cells #[.string (bs y), .slice ya yn yc] 87))
            have HT2 := Lib.hid (EnAt.one W2 ⟨y, ya, yn, yc, yl⟩)
            have HB2 := Lib.hid (B1.trans (B0.mono B1.size))
            clear B0 O1 B1 b2 hd HOn HBn HBL x0 x1 c0
            go_wp2_with (at_builtin; refine wpList_append_en rfl _ _ rfl w1.heap.size _ (T1.take j) rfl HO2.out _ 1 1 [⟨y, ya, yn, yc, yl⟩] rfl HT2.out (by rw [List.length_take]; omega) HB2.out.size ?_)
            intro v3 W3 O3 g3
            have B3 := ERow.bel HB2.out HB2.out.size HO2.out (Nat.le_refl _) g3
            rw [HTS.out] at O3
            clear HO2 HB2 HT2 g3
            go_wp2
            go_roundw
            case rel => exact ⟨j + 1, by go_num, by omega, Lib.hid O3, Lib.hid B3, HM2⟩
            case measure => simp [intOf]; omega
          · have HEN := Lib.hid (show ∀ sa q cs, ents ((T1.take j ++ [EnT.mk key sa q cs (srt l)]) ++ T1.drop j) = stepE key l (ents T) from fun sa q cs => by
              rw [ents_app, ents_app, stepE, if_pos HOK.out, setE, ← HE1.out, ← HM.out, ents_drop hT, insG_geE he, List.append_assoc]; rfl)
            rw [decide_eq_false he] at HBL
            clear he HM hlj R2 x1
            generalize T1[j] = en at *
            obtain ⟨y, ya, yn, yc, yl⟩ := en
            have x0 : wr.cell? ⟨p, q0 + j * 2, none⟩ = some (.string (bs y)) := x0
            go_wp2_with fail
            refine (HBL.out _).mono ?_
            rintro e w3 ⟨rfl, hd⟩
            have b2 := hd.bel
            replace HOn := Lib.hid (HOn.out.keep b2)
            replace HBn := Lib.hid (HBn.out.trans (b2.mono HBn.out.size))
            clear b2 hd HBL x0 c0
            go_wp2_with fail
            have b0 := HBn.out.size
            have C := rsorted_any a1 n1 c1 l w3 (LL.out.keep (BW.out.trans (HBn.out.mono BW.out.size))) (fun x hx => ((HOK.out.2.2.1 x hx).1).2) (by have := HOK.out.2.1; have := LL.out.1; omega)
            refine C.mono ?_
            clear C
            rintro e W2 ⟨vs, rfl, rl, b2⟩
            obtain ⟨sa, cs, rfl, ts⟩ := rl.shape
            clear ts
            obtain ⟨q, hq⟩ : ∃ q, (srt l).length = q := ⟨_, rfl⟩
            rw [hq] at rl
            rw [hq]
            have HQ := Lib.hid hq
            have O1 := HOn.out.keep b2
            have B1 := HBn.out.trans (b2.mono HBn.out.size)
            have B0 := (Below.refl W2.heap.size W2).alloc (Nat.le_refl _) (.cells #[.string (bs key), .slice sa q cs] 87)
            have HO2 := Lib.hid (O1.alloc (.cells #[.string (bs key), .slice sa q cs] 87))
            have HT2 := Lib.hid (EnAt.one W2 ⟨key, sa, q, cs, srt l⟩)
            have HB2 := Lib.hid (B1.trans (B0.mono B1.size))
            have RL2 := Lib.hid (rl.keep B0)
            clear B0 O1 HOn HBn B1 b2 rl hq
            go_wp2_with (at_builtin; refine wpList_append_en rfl _ _ rfl w1.heap.size _ (T1.take j) rfl HO2.out _ 1 1 [EnT.mk key sa q cs (srt l)] rfl HT2.out (by rw [List.length_take]; omega) HB2.out.size ?_)
            intro v3 W3 O3 g3
            have B3 := ERow.bel HB2.out HB2.out.size HO2.out (Nat.le_refl _) g3
            have c3 := (HR1.out.keep B3).cell.c0
            have HT4 := Lib.hid (HT3.out.keep B3)
            have HO4 := Lib.hid O3
            have HB4 := Lib.hid B3
            have RL4 := Lib.hid (RL2.out.aside HO2.out g3)
            clear HO2 HB2 HT2 g3 O3 B3 HT3 RL2
            have hbd : (T1.take j ++ [EnT.mk key sa q cs (srt l)]).length + (n' - j) ≤ 1048576 := by
              rw [List.length_append, List.length_take, List.length_singleton]; omega
            go_wp2_with (at_builtin; refine wpList_append_en rfl _ _ rfl w1.heap.size _ (T1.take j ++ [EnT.mk key sa q cs (srt l)]) rfl HO4.out _ _ _ _ rfl HT4.out hbd HB4.out.size ?_)
            intro v5 W5 O5 g5
            have B5 := ERow.bel HB4.out HB4.out.size HO4.out (Nat.le_refl _) g5
            have RL5 := Lib.hid (RL4.out.aside HO4.out g5)
            have RC5 := (HR1.out.keep B5).cell
            have c5 := RC5.c0
            have f5 := frozen_of (o := 0) RC5
            obtain ⟨T5, hT5⟩ : ∃ T5, (T1.take j ++ [EnT.mk key sa q cs (srt l)]) ++ T1.drop j = T5 := ⟨_, rfl⟩
            replace O5 : ERow W5 w1.heap.size v5 T5 := by rw [← hT5, List.append_assoc]; exact O5
            have HE5 := Lib.hid (show ents T5 = stepE key l (ents T) from by rw [← hT5]; exact HEN.out sa q cs)
            have HK5 := Lib.hid (show ∀ e ∈ T5, LbAt W5 e.a e.n e.c e.l from fun e he => by
              rw [← hT5] at he
              have hin : e ∈ T1 ∨ e = ⟨key, sa, q, cs, srt l⟩ := by
                rcases List.mem_append.1 he with he | he
                · rcases List.mem_append.1 he with he | he
                  · exact .inl (List.mem_of_mem_take he)
                  · exact .inr (by simpa using he)
                · exact .inl (List.mem_of_mem_drop he)
              rcases hin with he | he
              · exact (HR1.out.keep B5).ok e he
              · subst he
                obtain ⟨a9, c9, e9, t9⟩ := RL5.out.shape
                rw [HQ.out] at e9 t9
                simp only [Value.slice.injEq] at e9
                obtain ⟨rfl, _, rfl⟩ := e9
                exact t9)
            obtain ⟨a6, c6, rfl, t6⟩ := O5.shape
            have T6 := Lib.hid t6
            have RC6 := Lib.hid RC5
            have B6 := Lib.hid B5
            generalize T5.length = n6 at *
            clear HO4 HB4 g5 HT4 O5 B5 RL4 RL5 t6 RC5 hT5
            go_wp2
            go_ret
            obtain ⟨d1, d2⟩ := ref_done B6.out RC6.out T6.out HK5.out
            exact ⟨rfl, a6, n6, c6, T5, d1, HE5.out, FW.out.trans d2⟩
        · have hjz : ¬ (j : Int) < (n' : Int) := by omega
          obtain rfl : j = n' := by omega
          have HEN := Lib.hid (show ∀ sa q cs, ents ((T1.take j ++ [EnT.mk key sa q cs (srt l)]) ++ T1.drop j) = stepE key l (ents T) from fun sa q cs => by
            rw [ents_app, ents_app, stepE, if_pos HOK.out, setE, ← HE1.out, ← HM.out, List.drop_eq_nil_of_le (by rw [HL1.out]; exact Nat.le_refl _), List.append_assoc]; rfl)
          rw [Nat.sub_self] at hs3 HT3
          clear HM R2
          go_wp2_with fail
          have b0 := HBn.out.size
          have C := rsorted_any a1 n1 c1 l wr (LL.out.keep (BW.out.trans (HBn.out.mono BW.out.size))) (fun x hx => ((HOK.out.2.2.1 x hx).1).2) (by have := HOK.out.2.1; have := LL.out.1; omega)
          refine C.mono ?_
          clear C
          rintro e W2 ⟨vs, rfl, rl, b2⟩
          obtain ⟨sa, cs, rfl, ts⟩ := rl.shape
          clear ts
          obtain ⟨q, hq⟩ : ∃ q, (srt l).length = q := ⟨_, rfl⟩
          rw [hq] at rl
          rw [hq]
          have HQ := Lib.hid hq
          have O1 := HOn.out.keep b2
          have B1 := HBn.out.trans (b2.mono HBn.out.size)
          have B0 := (Below.refl W2.heap.size W2).alloc (Nat.le_refl _) (.cells #[.string (bs key), .slice sa q cs] 87)
          have HO2 := Lib.hid (O1.alloc (.cells #[.string (bs key), .slice sa q cs] 87))
          have HT2 := Lib.hid (EnAt.one W2 ⟨key, sa, q, cs, srt l⟩)
          have HB2 := Lib.hid (B1.trans (B0.mono B1.size))
          have RL2 := Lib.hid (rl.keep B0)
          clear B0 O1 HOn HBn B1 b2 rl hq
          go_wp2_with (at_builtin; refine wpList_append_en rfl _ _ rfl w1.heap.size _ (T1.take j) rfl HO2.out _ 1 1 [EnT.mk key sa q cs (srt l)] rfl HT2.out (by rw [List.length_take]; omega) HB2.out.size ?_)
          intro v3 W3 O3 g3
          have B3 := ERow.bel HB2.out HB2.out.size HO2.out (Nat.le_refl _) g3
          have c3 := (HR1.out.keep B3).cell.c0
          have HT4 := Lib.hid (HT3.out.keep B3)
          have HO4 := Lib.hid O3
          have HB4 := Lib.hid B3
          have RL4 := Lib.hid (RL2.out.aside HO2.out g3)
          clear HO2 HB2 HT2 g3 O3 B3 HT3 RL2
          have hbd : (T1.take j ++ [EnT.mk key sa q cs (srt l)]).length + (0) ≤ 1048576 := by
            rw [List.length_append, List.length_take, List.length_singleton]; omega
          go_wp2_with (at_builtin; refine wpList_append_en rfl _ _ rfl w1.heap.size _ (T1.take j ++ [EnT.mk key sa q cs (srt l)]) rfl HO4.out _ _ _ _ rfl HT4.out hbd HB4.out.size ?_)
          intro v5 W5 O5 g5
          have B5 := ERow.bel HB4.out HB4.out.size HO4.out (Nat.le_refl _) g5
          have RL5 := Lib.hid (RL4.out.aside HO4.out g5)
          have RC5 := (HR1.out.keep B5).cell
          have c5 := RC5.c0
          have f5 := frozen_of (o := 0) RC5
          obtain ⟨T5, hT5⟩ : ∃ T5, (T1.take j ++ [EnT.mk key sa q cs (srt l)]) ++ T1.drop j = T5 := ⟨_, rfl⟩
          replace O5 : ERow W5 w1.heap.size v5 T5 := by rw [← hT5, List.append_assoc]; exact O5
          have HE5 := Lib.hid (show ents T5 = stepE key l (ents T) from by rw [← hT5]; exact HEN.out sa q cs)
          have HK5 := Lib.hid (show ∀ e ∈ T5, LbAt W5 e.a e.n e.c e.l from fun e he => by
            rw [← hT5] at he
            have hin : e ∈ T1 ∨ e = ⟨key, sa, q, cs, srt l⟩ := by
              rcases List.mem_append.1 he with he | he
              · rcases List.mem_append.1 he with he | he
                · exact .inl (List.mem_of_mem_take he)
                · exact .inr (by simpa using he)
              · exact .inl (List.mem_of_mem_drop he)
            rcases hin with he | he
            · exact (HR1.out.keep B5).ok e he
            · subst he
              obtain ⟨a9, c9, e9, t9⟩ := RL5.out.shape
              rw [HQ.out] at e9 t9
              simp only [Value.slice.injEq] at e9
              obtain ⟨rfl, _, rfl⟩ := e9
              exact t9)
          obtain ⟨a6, c6, rfl, t6⟩ := O5.shape
          have T6 := Lib.hid t6
          have RC6 := Lib.hid RC5
          have B6 := Lib.hid B5
          generalize T5.length = n6 at *
          clear HO4 HB4 g5 HT4 O5 B5 RL4 RL5 t6 RC5 hT5
          go_wp2
          go_ret
          obtain ⟨d1, d2⟩ := ref_done B6.out RC6.out T6.out HK5.out
          exact ⟨rfl, a6, n6, c6, T5, d1, HE5.out, FW.out.trans d2⟩
    · rw [decide_eq_false k2] at HRG
      have hok : ¬ okE key l := fun h => k2 h.2
      rw [if_neg hok, show stepE key l (ents T) = ents T from if_neg hok]
      clear k1 k2 hok
      go_enter Tryz.func49, Tryz.ntmps49
      go_wp2_with fail
      refine HK.out.mono ?_
      rintro e w' ⟨rfl, rfl⟩
      go_wp2_with fail
      refine HRG.out.mono ?_
      rintro e w0 ⟨rfl, hd⟩
      go_wp2
      go_ret
      exact ⟨rfl, a, n, c, T, HR.out.keep hd.bel, rfl, Far.of hd.bel⟩
  · rw [decide_eq_false k1] at HK
    have hok : ¬ okE key l := fun h => k1 h.1
    rw [if_neg hok, show stepE key l (ents T) = ents T from if_neg hok]
    clear k1 hok
    go_enter Tryz.func49, Tryz.ntmps49
    go_wp2_with fail
    refine HK.out.mono ?_
    rintro e w' ⟨rfl, rfl⟩
    go_wp2
    go_ret
    exact ⟨rfl, a, n, c, T, HR.out, rfl, Far.of (Below.refl _ _)⟩

end Go.Proofs.YtifjbbiphekmmaaGreatDoor
/-
  Contract of law10's build: an index, and the document's, with the same entries.
-/
namespace Go.Proofs.YtifjbbiphekmmaaGreatDoor
open Go.RowKit
set_option linter.unusedVariables false
set_option linter.unusedSimpArgs false

def BoxO10 (w : World) (B : Nat) (k : Int) (key : Tx) (s : Value) : Prop := w.heap[B]? = some (.cells #[.int .i64 k, .string (bs key), s] 85 (0, 0))
theorem BoxO10.trn {F : Nat → Prop} {w w' : World} {B : Nat} {k : Int} {key : Tx} {s : Value} (h : BoxO10 w B k key s) (t : Trn F w w') : BoxO10 w' B k key s := t.cells _ _ _ _ h
theorem BoxO10.x1 {w : World} {B : Nat} {k : Int} {key : Tx} {s : Value} (h : BoxO10 w B k key s) : w.cell? ⟨B, 1, none⟩ = some (.string (bs key)) := by rw [cell_of h]; rfl
theorem BoxO10.x2 {w : World} {B : Nat} {k : Int} {key : Tx} {s : Value} (h : BoxO10 w B k key s) : w.cell? ⟨B, 2, none⟩ = some s := by rw [cell_of h]; rfl
/-- Both indexes, of the same entries. -/
structure TwoX (w0 w : World) (x bl bn : Nat) (ρ : Rho) (r : Nat) (ra : Option Addr) (rn rc : Nat) (T : List EnT) (E : List Ent) (k : Nat) : Prop where
  ix : IxAt w x bl bn ρ E
  rx : RefAt w r ra rn rc T
  eq : ents T = E
  few : E.length ≤ k
  bel : Below w0.heap.size w0 w
  fa : ∀ i, FA ρ i → w0.heap.size ≤ i
  own : w0.heap.size ≤ r
theorem TwoX.keep {w0 w w' : World} {x bl bn : Nat} {ρ : Rho} {r : Nat} {ra : Option Addr} {rn rc : Nat} {T : List EnT} {E : List Ent} {k : Nat} (h : TwoX w0 w x bl bn ρ r ra rn rc T E k) (b : Below w.heap.size w w') : TwoX w0 w' x bl bn ρ r ra rn rc T E k :=
  ⟨h.ix.keep b, h.rx.keep b, h.eq, h.few, h.bel.trans (b.mono h.bel.size), h.fa, h.own⟩
theorem TwoX.more {w0 w : World} {x bl bn : Nat} {ρ : Rho} {r : Nat} {ra : Option Addr} {rn rc : Nat} {T : List EnT} {E : List Ent} {k k' : Nat} (h : TwoX w0 w x bl bn ρ r ra rn rc T E k) (hk : k ≤ k') : TwoX w0 w x bl bn ρ r ra rn rc T E k' :=
  ⟨h.ix, h.rx, h.eq, Nat.le_trans h.few hk, h.bel, h.fa, h.own⟩
def TwoP (w : World) (e : Ending) (w' : World) : Prop := ∃ x bl bn ρ r ra rn rc T E, e = .returned (.tuple #[.pointer (some ⟨x, 0, none⟩), .pointer (some ⟨r, 0, none⟩)]) ∧ TwoX w w' x bl bn ρ r ra rn rc T E 20

set_option maxRecDepth 100000 in
set_option maxHeartbeats 8000000 in
theorem build10_any (a : Option Addr) (len cap : Nat) (z : List OpL) (w : World) (h : OpAt w a len cap z) :
    Calls Tryz.prog 26 #[.slice a len cap] w (TwoP w) := by
  have hlz := h.1
  have hlm := h.2.2.1
  have HZ := Lib.hid h
  clear h
  go_enter Tryz.func26, Tryz.ntmps26
  go_wp2_with fail
  refine (new_any w).mono ?_
  rintro e w1 ⟨x, bl, bn, ρ, rfl, x1, b1, f1⟩
  have BR := (Below.refl w1.heap.size w1).alloc (Nat.le_refl _) (.cells #[.slice none 0 0] 83)
  have O1 : Hid (TwoX w (w1.alloc (.cells #[.slice none 0 0] 83)) x bl bn ρ w1.heap.size none 0 0 [] [] 0) :=
    Lib.hid ⟨x1.keep BR, ⟨heap_new w1 _, ⟨rfl, Nat.le_refl _, by omega, .inl rfl⟩, by simp⟩, rfl, by simp, b1.trans (BR.mono b1.size), f1, b1.size⟩
  clear x1 b1 f1 BR
  go_wp2_with fail
  generalize w1.alloc (.cells #[.slice none 0 0] 83) = W1 at *
  generalize w1.heap.size = r at *
  go_loopw [6] (fun vi wr => ∃ (j : Nat) (ρ' : Rho) (ra : Option Addr) (rn rc : Nat) (T : List EnT) (E : List Ent), vi = .int .i64 (j : Int) ∧ j ≤ len ∧ j ≤ 20 ∧ Hid (TwoX w wr x bl bn ρ' r ra rn rc T E j)) (fun vi _ => len - (intOf vi).toNat)
  case atStart => exact ⟨0, ρ, none, 0, 0, [], [], rfl, Nat.zero_le _, Nat.zero_le _, O1⟩
  case round =>
    obtain ⟨j, ρ', ra, rn, rc, T, E, rfl, hj, hj40, HO⟩ := hrel
    clear O1
    by_cases hjn : j < len
    · have hjz : (j : Int) < (len : Int) := by omega
      have hj0 : (0 : Int) ≤ (j : Int) := by omega
      by_cases hjf : j < 20
      · have hjf' : (j : Int) < 20 := by omega
        have HZ1 := Lib.hid (HZ.out.keep HO.out.bel)
        obtain ⟨pb, po, a', n', c', hzz, e1, hpb, x0, x1, x2, hlq⟩ := HZ1.out.at_ j hjn
        subst e1
        clear HZ1
        generalize z[j] = q at *
        obtain ⟨qk, qs, ql⟩ := q
        simp only at x0 x1 x2 hlq
        have BA := (Below.refl wr.heap.size wr).alloc (Nat.le_refl _) (.cells #[.int .i64 qk, .string (bs qs), .slice a' n' c'] 85)
        have BX := Lib.hid (show BoxO10 (wr.alloc (.cells #[.int .i64 qk, .string (bs qs), .slice a' n' c'] 85)) wr.heap.size qk qs (.slice a' n' c') from heap_new wr _)
        have O2 := Lib.hid (HO.out.keep BA)
        have LL := Lib.hid (show LbAt _ a' n' c' ql from hlq.keep BA)
        clear BA hlq HO
        have hlight : (100 < (bs qs).size ∨ 12 < n') ∨ (¬ 100 < (bs qs).size ∧ ¬ 12 < n') := by omega
        rcases hlight with hl | ⟨hl1, hl2⟩
        · have O3 := Lib.hid (O2.out.more (k' := j + 1) (by omega))
          by_cases k1 : 100 < (bs qs).size
          · have k1z : decide ((100 : Int) < ((bs qs).size : Int)) = true := decide_eq_true (by omega)
            go_wp2
            go_roundw
            case rel => exact ⟨j + 1, ρ', ra, rn, rc, T, E, by go_num, by omega, by omega, O3⟩
            case measure => simp [intOf]; omega
          · have k2 : 12 < n' := by omega
            have k1z : decide ((100 : Int) < ((bs qs).size : Int)) = false := decide_eq_false (by omega)
            have k2z : decide ((12 : Int) < (n' : Int)) = true := decide_eq_true (by omega)
            clear hl
            go_wp2
            go_roundw
            case rel => exact ⟨j + 1, ρ', ra, rn, rc, T, E, by go_num, by omega, by omega, O3⟩
            case measure => simp [intOf]; omega
        · have k1z : decide ((100 : Int) < ((bs qs).size : Int)) = false := decide_eq_false (by omega)
          have k2z : decide ((12 : Int) < (n' : Int)) = false := decide_eq_false (by omega)
          obtain ⟨rr, hrr2⟩ : ∃ rr : Int, (if okE qs ql then (0 : Int) else 1) = rr := ⟨_, rfl⟩
          have HC1 := fun W h1 h2 => iset_ok W x bl bn ρ' E qs a' n' c' ql h1 h2
          have HC2 := Lib.hid (show ∀ V, RefAt V r ra rn rc T → LbAt V a' n' c' ql → Calls Tryz.prog 49 #[.pointer (some ⟨r, 0, none⟩), .string (bs qs), .slice a' n' c'] V (RefP V r (.int .i64 rr) (stepE qs ql E)) from fun V h1 h2 => by
            have C := rset_any V r ra rn rc T qs a' n' c' ql h1 h2 (by have h1 := O2.out.rx.row.1; have h2 := O2.out.few; rw [← O2.out.eq, ents_len] at h2; omega) (fun kk hk => by
              rw [O2.out.eq] at hk
              obtain ⟨p, hp, e⟩ := List.mem_map.1 hk
              rw [← e]; exact (O2.out.ix.good.key p hp).2)
            rw [hrr2, O2.out.eq] at C; exact C)
          rw [hrr2] at HC1
          replace HC1 := Lib.hid HC1
          clear hrr2
          go_wp2_with fail
          generalize wr.alloc (.cells #[.int .i64 qk, .string (bs qs), .slice a' n' c'] 85) = W2 at *
          generalize wr.heap.size = kx at *
          have hkr : kx ≠ r := fun e => by
            have h1 := BX.out
            have h2 := O2.out.rx.cell
            unfold BoxO10 at h1
            unfold RxCell at h2
            rw [e, h2] at h1
            simp at h1
          refine (HC1.out W2 O2.out.ix LL.out).mono ?_
          rintro e W4 ⟨rfl, ρ4, t4⟩
          have X4 := Lib.hid t4.ix
          have R4 := Lib.hid (O2.out.rx.trn t4.trn)
          have L4 := Lib.hid (LL.out.trn t4.trn)
          have BX4 := Lib.hid (BoxO10.trn BX.out t4.trn)
          have B4 := Lib.hid (Trn.below O2.out.bel O2.out.bel.size t4.trn (fun i hi f => by have := O2.out.fa i f; omega))
          have FX4 := Lib.hid (fa_turn O2.out.fa t4 O2.out.bel.size)
          have FEW := Lib.hid (show (stepE qs ql E).length ≤ j + 1 from by have := O2.out.few; have := step_len qs ql E; omega)
          have OWN := Lib.hid O2.out.own
          clear t4 O2 LL BX HC1
          have y1 := BX4.out.x1
          have y2 := BX4.out.x2
          go_wp2_with fail
          refine (HC2.out W4 R4.out L4.out).mono ?_
          rintro e W5 ⟨rfl, ra5, rn5, rc5, T5, r5, e5, f5⟩
          have O5 := Lib.hid (show TwoX w W5 x bl bn ρ4 r ra5 rn5 rc5 T5 (stepE qs ql E) (j + 1) from ⟨X4.out.far f5 R4.out.cell, r5, e5, FEW.out, Far.below B4.out B4.out.size f5 OWN.out, FX4.out, OWN.out⟩)
          clear X4 R4 L4 BX4 B4 FX4 FEW OWN r5 e5 f5 HC2
          go_wp2
          go_roundw
          case rel => exact ⟨j + 1, ρ4, ra5, rn5, rc5, T5, _, by go_num, by omega, by omega, O5⟩
          case measure => simp [intOf]; omega
      · have hjf' : ¬ (j : Int) < 20 := by omega
        go_wp2
        go_ret2
        exact ⟨x, bl, bn, ρ', r, ra, rn, rc, T, E, rfl, HO.out.more hj40⟩
    · have hjz : ¬ (j : Int) < (len : Int) := by omega
      go_wp2
      go_ret2
      exact ⟨x, bl, bn, ρ', r, ra, rn, rc, T, E, rfl, HO.out.more hj40⟩

end Go.Proofs.YtifjbbiphekmmaaGreatDoor
/-
  Contract of the document's Match.
-/
namespace Go.Proofs.YtifjbbiphekmmaaGreatDoor
open Go.RowKit
set_option linter.unusedVariables false
set_option linter.unusedSimpArgs false

theorem drew_cell {W0 wr : World} (h : Drew W0 wr) (k : Nat) (a : Addr) (v : Value) (e : W0.cell? a = some v) : (wr.drewN k).cell? a = some v := by
  obtain ⟨q, rfl⟩ := h; exact e
theorem look_drop_hit {L : List Lb} {j : Nat} {nm : Tx} (h : j < L.length) (e : lN L j = nm) : look (L.drop j) nm = some (lV L j) := by
  rw [List.drop_eq_getElem_cons h, lb_get h]
  unfold look
  rw [if_pos e]
theorem look_drop_miss {L : List Lb} {j : Nat} {nm : Tx} (h : j < L.length) (e : ¬ lN L j = nm) : look (L.drop j) nm = look (L.drop (j + 1)) nm := by
  rw [List.drop_eq_getElem_cons h, lb_get h]
  conv => lhs; unfold look
  rw [if_neg e]

set_option maxHeartbeats 2000000 in
theorem rmatch10_any (e : TmT) (la : Option Addr) (ln lc : Nat) (L : List Lb) (w : World) (h : TmOk w e) (hl : LbAt w la ln lc L) :
    Calls Tryz.prog 21 #[tmV e, .slice la ln lc] w fun r w' => r = .returned (.bool (matchT e.trm L)) ∧ Below w.heap.size w w' := by
  obtain ⟨nm, ng, a, n, c, l⟩ := e
  have HS := Lib.hid (show TxAt w a n c l from h)
  have hlen : l.length = n := h.1
  have hll : L.length = ln := hl.1
  have HLL := Lib.hid hll
  have h63 := h.2.2.1
  have hl63 := hl.2.2.1
  have X0 := Lib.hid (BoxT.new 30 w ⟨nm, ng, a, n, c, l⟩)
  have B0 := Lib.hid ((Below.refl w.heap.size w).alloc (Nat.le_refl _) (.cells #[.string (bs nm), .bool ng, .slice a n c] 30))
  have HLB := Lib.hid (hl.keep B0.out)
  have HS0 := Lib.hid (HS.out.keep B0.out)
  have HE := Lib.hid (show n = 0 ↔ l.isEmpty = true by rw [List.isEmpty_iff, ← hlen]; exact List.length_eq_zero_iff)
  clear h hl hlen hll HS
  unfold tmV
  simp only at X0 ⊢
  go_enter Tryz.func21, Tryz.ntmps21
  go_wp2_with fail
  generalize w.alloc (.cells #[.string (bs nm), .bool ng, .slice a n c] 30) = W0 at *
  have x0 : ∀ q, (W0.drewN q).cell? ⟨w.heap.size, 0, none⟩ = _ := fun q => X0.out.x0
  have x1 : ∀ q, (W0.drewN q).cell? ⟨w.heap.size, 1, none⟩ = _ := fun q => X0.out.x1
  have x2 : ∀ q, (W0.drewN q).cell? ⟨w.heap.size, 2, none⟩ = _ := fun q => X0.out.x2
  simp only at x0 x1 x2
  have BD := Lib.hid (fun W (d : Drew W0 W) => B0.out.trans (d.bel.mono B0.out.size))
  clear X0 B0
  go_loopw [5] (fun i wr => ∃ j : Nat, j ≤ ln ∧ i = .int .i64 (j : Int) ∧ Hid (look L nm = look (L.drop j) nm) ∧ Hid (Drew W0 wr)) (fun i _ => ln - (intOf i).toNat)
  case atStart => exact ⟨0, by omega, rfl, Lib.hid rfl, Lib.hid ⟨0, rfl⟩⟩
  case round =>
    obtain ⟨j, hj, rfl, HK, HD⟩ := hrel
    have HX := Lib.hid (drew_cell HD.out)
    have v0 : ∀ q, (wr.drewN q).cell? ⟨w.heap.size, 0, none⟩ = _ := fun q => HX.out q _ _ (x0 0)
    have v1 : ∀ q, (wr.drewN q).cell? ⟨w.heap.size, 1, none⟩ = _ := fun q => HX.out q _ _ (x1 0)
    have v2 : ∀ q, (wr.drewN q).cell? ⟨w.heap.size, 2, none⟩ = _ := fun q => HX.out q _ _ (x2 0)
    have u0 : wr.cell? ⟨w.heap.size, 0, none⟩ = _ := v0 0
    have u1 : wr.cell? ⟨w.heap.size, 1, none⟩ = _ := v1 0
    have u2 : wr.cell? ⟨w.heap.size, 2, none⟩ = _ := v2 0
    by_cases hjn : j < ln
    · obtain ⟨pb, po, rfl, hpb, y0, y1⟩ := HLB.out.at_ j hjn
      have z0 : ∀ q, (wr.drewN q).cell? ⟨pb, po + j * 2, none⟩ = _ := fun q => HX.out q _ _ y0
      have z1 : ∀ q, (wr.drewN q).cell? ⟨pb, po + j * 2 + 1, none⟩ = _ := fun q => HX.out q _ _ y1
      have he := eq_bs (lN L j) nm
      by_cases hc : lN L j = nm
      · rw [decide_eq_true hc] at he
        have HM : Hid (matchT (nm, ng, l) L = if l.isEmpty then ng else decide (lV L j ∈ l) != ng) := Lib.hid (by unfold matchT; rw [HK.out, look_drop_hit (by rw [HLL.out]; exact hjn) hc])
        clear HK hc
        by_cases h0 : n = 0
        · have HL := Lib.hid (HE.out.1 h0)
          have hz : ((n : Int) == 0) = true := beq_iff_eq.2 (by omega)
          clear h0
          generalize bs (lN L j) = ln2 at *
          go_wp2_with fail
          go_quiet (fail)
          go_wp2
          go_ret
          exact ⟨ret_bool (by show _ = matchT (nm, _, l) L; rw [HM.out, HL.out]; rfl), BD.out _ (HD.out.trans ⟨_, rfl⟩)⟩
        · have HL := Lib.hid (show l.isEmpty = false from Bool.eq_false_iff.2 fun e => h0 (HE.out.2 e))
          have hz : ((n : Int) == 0) = false := beq_eq_false_iff_ne.2 (by omega)
          clear h0
          have HQ := Lib.hid (fun W (d : Drew W0 W) => rhas8_any a n c l (lV L j) W (HS0.out.keep d.bel))
          generalize decide (lV L j ∈ l) = r at *
          generalize bs (lN L j) = ln2 at *
          generalize lV L j = vl at *
          go_wp2_with fail
          go_quiet (fail)
          go_wp2_with fail
          have D1 := Lib.hid (HD.out.trans (⟨nq, rfl⟩ : Drew wr (wr.drewN nq)))
          have HX1 := Lib.hid (drew_cell D1.out)
          generalize wr.drewN nq = W1 at *
          have w1 : ∀ q, (W1.drewN q).cell? ⟨w.heap.size, 1, none⟩ = _ := fun q => HX1.out q _ _ (x1 0)
          have w2 : ∀ q, (W1.drewN q).cell? ⟨w.heap.size, 2, none⟩ = _ := fun q => HX1.out q _ _ (x2 0)
          have w3 : ∀ q, (W1.drewN q).cell? ⟨pb, po + j * 2 + 1, none⟩ = _ := fun q => HX1.out q _ _ y1
          have HQ1 := Lib.hid (fun q => HQ.out (W1.drewN q) (D1.out.trans ⟨q, rfl⟩))
          clear x0 x1 x2 v0 v1 v2 u0 u1 u2 z0 z1
          cases ng
          all_goals
            go_quiet (with_reducible exact quietL (HQ1.out _))
            go_wp2
            go_ret
            exact ⟨ret_bool (by show _ = matchT (nm, _, l) L; rw [HM.out, HL.out]; cases r <;> rfl), BD.out _ (D1.out.trans ⟨_, rfl⟩)⟩
      · rw [decide_eq_false hc] at he
        have HN := Lib.hid (HK.out.trans (look_drop_miss (by rw [HLL.out]; exact hjn) hc))
        clear HK hc y0 y1
        generalize bs (lN L j) = ln2 at *
        go_wp2_with fail
        go_quiet (fail)
        go_wp2
        go_roundw
        case rel => exact ⟨j + 1, by omega, by go_num, HN, Lib.hid (HD.out.trans ⟨_, rfl⟩)⟩
        case measure => simp [intOf]; omega
    · have HM : Hid (matchT (nm, ng, l) L = (ng == !l.isEmpty)) := Lib.hid (by unfold matchT; rw [HK.out, List.drop_of_length_le (by rw [HLL.out]; omega)]; rfl)
      have hlt : ¬ (j : Int) < (ln : Int) := by omega
      by_cases h0 : n = 0
      · have HL := Lib.hid (HE.out.1 h0)
        have hz : decide ((0 : Int) < (n : Int)) = false := decide_eq_false (by omega)
        have HZ : Hid (decide (0 < n) = false) := Lib.hid (decide_eq_false (by omega))
        clear h0 HK
        cases ng
        all_goals
          go_wp2
          go_ret
          exact ⟨ret_bool (by show _ = matchT (nm, _, l) L; rw [HM.out, HL.out]; first | rfl | (rw [HZ.out]; rfl)), BD.out _ HD.out⟩
      · have HL := Lib.hid (show l.isEmpty = false from Bool.eq_false_iff.2 fun e => h0 (HE.out.2 e))
        have hz : decide ((0 : Int) < (n : Int)) = true := decide_eq_true (by omega)
        have HZ : Hid (decide (0 < n) = true) := Lib.hid (decide_eq_true (by omega))
        clear h0 HK
        cases ng
        all_goals
          go_wp2
          go_ret
          exact ⟨ret_bool (by show _ = matchT (nm, _, l) L; rw [HM.out, HL.out]; first | rfl | (rw [HZ.out]; rfl)), BD.out _ HD.out⟩
end Go.Proofs.YtifjbbiphekmmaaGreatDoor
/-
  Contract of the document's Find.
-/
namespace Go.Proofs.YtifjbbiphekmmaaGreatDoor
open Go.RowKit
set_option linter.unusedVariables false
set_option linter.unusedSimpArgs false

theorem findT_yes {T : List EnT} {ts : List Trm} {j : Nat} (h : j < T.length) (e : allT ts T[j].l = true) : findT (ents (T.take (j + 1))) ts = findT (ents (T.take j)) ts ++ [T[j].key] := by
  rw [List.take_succ_eq_append_getElem h]
  unfold findT ents keysL
  rw [List.map_append, List.filter_append, List.map_append]
  congr 1
  show List.map Prod.fst (List.filter (fun p => allT ts p.2) [EnT.ent T[j]]) = _
  rw [List.filter_cons_of_pos (by exact e)]; rfl
theorem findT_not {T : List EnT} {ts : List Trm} {j : Nat} (h : j < T.length) (e : allT ts T[j].l = false) : findT (ents (T.take (j + 1))) ts = findT (ents (T.take j)) ts := by
  rw [List.take_succ_eq_append_getElem h]
  unfold findT ents keysL
  rw [List.map_append, List.filter_append, List.map_append]
  show _ ++ List.map Prod.fst (List.filter (fun p => allT ts p.2) [EnT.ent T[j]]) = _
  rw [List.filter_cons_of_neg (by show ¬ allT ts (T[j]).l = true; rw [e]; simp)]; simp
theorem findT_len (T : List EnT) (ts : List Trm) : (findT (ents T) ts).length ≤ T.length := by
  unfold findT keysL
  rw [List.length_map]
  exact Nat.le_trans (List.length_filter_le _ _) (by unfold ents; rw [List.length_map]; exact Nat.le_refl _)
theorem all_and {ts : List Trm} {l : List Lb} {k : Nat} (h : k < ts.length) : allT (ts.take (k + 1)) l = (allT (ts.take k) l && matchT ts[k] l) := by
  unfold allT
  rw [List.take_succ_eq_append_getElem h, List.all_append]; simp

set_option maxRecDepth 100000 in
set_option maxHeartbeats 4000000 in
theorem rfind10_any (w : World) (r : Nat) (a : Option Addr) (n c : Nat) (T : List EnT) (ta : Option Addr) (tn tc : Nat) (TS : List TmT) (h : RefAt w r a n c T) (hn : n ≤ 1000) (ht : TmsAt w ta tn tc TS) :
    Calls Tryz.prog 29 #[.pointer (some ⟨r, 0, none⟩), .slice ta tn tc] w (MadeP w (findT (ents T) (trms TS))) := by
  have HR := Lib.hid h
  have HL := Lib.hid h.row.1
  have HT := Lib.hid ht
  have HTL := Lib.hid ht.1.1
  have ht63 := ht.1.2.2.1
  clear h ht
  go_enter Tryz.func29, Tryz.ntmps29
  go_wp2_with fail
  go_loopw [5, 6] (fun vo vi wr => ∃ j : Nat, vi = .int .i64 (j : Int) ∧ j ≤ n ∧ Hid (TRow wr w.heap.size vo (findT (ents (T.take j)) (trms TS))) ∧ Hid (Below w.heap.size w wr)) (fun _ vi _ => n - (intOf vi).toNat)
  case atStart => exact ⟨0, rfl, Nat.zero_le _, Lib.hid (TRow.nil _ _), Lib.hid (Below.refl _ _)⟩
  case round =>
    obtain ⟨j, rfl, hj, HO, HB⟩ := hrel
    have R1 := HR.out.keep HB.out
    have c0 := R1.cell.c0
    by_cases hjn : j < n
    · have hjz : (j : Int) < (n : Int) := by omega
      have hj0 : (0 : Int) ≤ (j : Int) := by omega
      obtain ⟨p, q, hT, rfl, hp, x0, x1, hl⟩ := R1.at_ j hjn
      have HFL := Lib.hid (show (findT (ents (T.take j)) (trms TS)).length ≤ 1000 by have := findT_len (T.take j) (trms TS); rw [List.length_take] at this; omega)
      have HY := Lib.hid (findT_yes (ts := trms TS) hT)
      have HNO := Lib.hid (findT_not (ts := trms TS) hT)
      have HLB := Lib.hid hl
      have HR1 := Lib.hid R1
      clear hl R1
      generalize T[j].key = y at *
      generalize T[j].l = L at *
      generalize T[j].a = ea at *
      generalize T[j].n = en at *
      generalize T[j].c = ec at *
      generalize findT (ents (T.take j)) (trms TS) = o at *
      have hrW := HR1.out.lt
      go_wp2_with fail
      go_loopw [7, 8] (fun sv vi wx => ∃ k : Nat, vi = .int .i64 (k : Int) ∧ k ≤ tn ∧ sv = .bool (allT ((trms TS).take k) L) ∧ Hid (Below wr.heap.size wr wx)) (fun _ vi _ => tn - (intOf vi).toNat)
      case atStart => exact ⟨0, rfl, Nat.zero_le _, rfl, Lib.hid (Below.refl _ _)⟩
      case round =>
        obtain ⟨k, rfl, hk, rfl, HW⟩ := hrel
        by_cases hkt : k < tn
        · have hkz : (k : Int) < (tn : Int) := by omega
          have hk0 : (0 : Int) ≤ (k : Int) := by omega
          have hkT : k < (trms TS).length := by rw [trms_len, HTL.out]; exact hkt
          have HAN := Lib.hid (all_and (l := L) hkT)
          rw [trms_at hkT] at HAN
          have HWW := Lib.hid (HB.out.trans (HW.out.mono HB.out.size))
          have HTW := Lib.hid (HT.out.keep HWW.out)
          obtain ⟨tb, to, rfl, htb, t0, t1, t2⟩ := HTW.out.1.at_ k hkt
          have d0 := (HW.out.cell (p := ⟨r, 0, none⟩) hrW).trans c0
          have d1 := (HW.out.cell (p := ⟨p, q + j * 2 + 1, none⟩) hp).trans x1
          have hrX : r < wr.heap.size := Nat.lt_of_lt_of_le hrW HW.out.size
          have hpX : p < wr.heap.size := Nat.lt_of_lt_of_le hp HW.out.size
          cases ha : allT ((trms TS).take k) L
          · rw [ha, Bool.false_and] at HAN
            clear ha
            go_wp2_with fail
            go_quiet (fail)
            go_wp2
            go_roundw
            case rel => exact ⟨k + 1, by go_num, by omega, by rw [HAN.out], Lib.hid (HW.out.trans (Below.mono (Drew.bel ⟨_, rfl⟩) HW.out.size))⟩
            case measure => simp [intOf]; omega
          · rw [ha, Bool.true_and] at HAN
            clear ha
            have HMM := Lib.hid (rmatch10_any (tmT TS k) ea en ec L wr.drew (show TxAt wr _ _ _ _ from HTW.out.ok hkt) (show LbAt wr _ _ _ _ from HLB.out.keep HW.out))
            unfold tmV at HMM
            generalize matchT (tmT TS k).trm L = b at *
            generalize bs (tmT TS k).name = nb at *
            generalize (tmT TS k).neg = ng at *
            generalize (tmT TS k).a = na at *
            generalize (tmT TS k).n = nn at *
            generalize (tmT TS k).c = nc at *
            go_wp2_with fail
            go_region_held3 (fun w' => w'.cell? ⟨r, 0, none⟩ = some (.slice (some ⟨p, q, none⟩) n c) ∧ w'.cell? ⟨p, q + j * 2 + 1, none⟩ = some (.slice ea en ec) ∧ w'.cell? ⟨tb, to + k * 3, none⟩ = some (.string nb) ∧ w'.cell? ⟨tb, to + k * 3 + 1, none⟩ = some (.bool ng) ∧ w'.cell? ⟨tb, to + k * 3 + 2, none⟩ = some (.slice na nn nc))
              (first
                | exact g0.out
                | exact ⟨d0, d1, t0, t1, t2⟩
                | go_keep)
              (first
                | (go_at_call 21
                   (with_reducible refine HMM.out.mono ?_)
                   rintro e W6 ⟨rfl, hb6⟩
                   have g0 := Lib.hid (show _ ∧ _ ∧ _ ∧ _ ∧ _ from ⟨(hb6.cell (p := ⟨r, 0, none⟩) hrX).trans d0, (hb6.cell (p := ⟨p, q + j * 2 + 1, none⟩) hpX).trans d1, (hb6.cell (p := ⟨tb, to + k * 3, none⟩) htb).trans t0, (hb6.cell (p := ⟨tb, to + k * 3 + 1, none⟩) htb).trans t1, (hb6.cell (p := ⟨tb, to + k * 3 + 2, none⟩) htb).trans t2⟩))
                | fail)
            go_wp2
            go_roundw
            case rel => exact ⟨k + 1, by go_num, by omega, by rw [HAN.out], Lib.hid (HW.out.trans ((bel_drew (Below.refl wr.heap.size wr)).trans hb6 |>.mono HW.out.size))⟩
            case measure => simp [intOf]; omega
        · have hkz : ¬ (k : Int) < (tn : Int) := by omega
          obtain rfl : k = tn := by omega
          rw [List.take_of_length_le (by rw [trms_len, HTL.out]; exact Nat.le_refl _)]
          have HWW := Lib.hid (HB.out.trans (HW.out.mono HB.out.size))
          have HO2 := Lib.hid (HO.out.keep HW.out)
          have d0 := (HW.out.cell (p := ⟨r, 0, none⟩) hrW).trans c0
          have d1 := (HW.out.cell (p := ⟨p, q + j * 2, none⟩) hp).trans x0
          clear x0 x1 c0
          cases ha : allT (trms TS) L
          · have HN2 := Lib.hid (HNO.out ha)
            clear ha
            go_wp2
            go_roundw
            case rel => exact ⟨j + 1, by go_num, by omega, by rw [HN2.out]; exact HO2, HWW⟩
            case measure => simp [intOf]; omega
          · have HN2 := Lib.hid (HY.out ha)
            clear ha
            have HOA := Lib.hid (HO2.out.keep ((Below.refl wr.heap.size wr).alloc (Nat.le_refl _) (.cells #[.string (bs y)] 9)))
            have HTA := Lib.hid (TxAt.one wr y)
            have HBA := Lib.hid (HWW.out.alloc HWW.out.size (.cells #[.string (bs y)] 9))
            generalize bs y = sp at *
            go_wp2_with (at_builtin; refine wpList_append_tx rfl _ _ rfl w.heap.size _ o rfl HOA.out _ 1 1 [y] rfl HTA.out (by have := HFL.out; omega) HBA.out.size ?_)
            intro v3 W3 O3 g3
            have B3 := Lib.hid (TRow.bel HBA.out HBA.out.size HOA.out (Nat.le_refl _) g3)
            have HO3 := Lib.hid O3
            clear HOA HBA HTA g3 O3
            go_wp2
            go_roundw
            case rel => exact ⟨j + 1, by go_num, by omega, by rw [HN2.out]; exact HO3, B3⟩
            case measure => simp [intOf]; omega
    · have hjz : ¬ (j : Int) < (n : Int) := by omega
      obtain rfl : j = n := by omega
      rw [List.take_of_length_le (by rw [HL.out]; exact Nat.le_refl _)] at HO
      go_wp2
      go_ret
      exact ⟨_, rfl, HO.out, HB.out⟩
end Go.Proofs.YtifjbbiphekmmaaGreatDoor
/-
  Contracts of the document's answers of layer 8: Of, Pick, Or.
-/
namespace Go.Proofs.YtifjbbiphekmmaaGreatDoor
open Go.RowKit
set_option linter.unusedVariables false
set_option linter.unusedSimpArgs false

theorem Sh.canon {l : List Tx} (h : Sh l) : Sh (canon l) := fun x hx => h x (mem_canon.1 hx)
theorem canon_take {l : List Tx} {j : Nat} (h : j < l.length) : insS (l.getD j []) (canon (l.take j)) = canon (l.take (j + 1)) := by
  rw [List.take_succ_eq_append_getElem h, ← getD_get h]
  exact ss_ext (insS_ss (canon_ss _)) (canon_ss _) (fun z => by rw [mem_insS, mem_canon, mem_canon, List.mem_append, List.mem_singleton]; exact or_comm)
theorem Sh.take {l : List Tx} (h : Sh l) (j : Nat) : Sh (l.take j) := fun x hx => h x (List.mem_of_mem_take hx)
theorem Sh.filter {l : List Tx} (h : Sh l) (p : Tx → Bool) : Sh (l.filter p) := fun x hx => h x (List.mem_filter.1 hx).1

set_option maxRecDepth 100000 in
set_option maxHeartbeats 2000000 in
theorem rof8_any (a : Option Addr) (n c : Nat) (l : List Tx) (w : World) (h : TxAt w a n c l) (hs : Sh l) (hl : n ≤ 1000000) :
    Calls Tryz.prog 56 #[.slice a n c] w (SortP w (canon l)) := by
  have HA := Lib.hid h
  have HL := Lib.hid h.1
  have hm := h.2.2.1
  have HH := Lib.hid hs
  clear h hs
  go_enter Tryz.func56, Tryz.ntmps56
  go_wp2_with fail
  go_loopw [3, 4] (fun vo vi wr => ∃ (j : Nat) (b : Option Addr) (m d : Nat) (o : List Tx), vo = .slice b m d ∧ vi = .int .i64 (j : Int) ∧ j ≤ n ∧ Hid (o = canon (l.take j)) ∧ Hid (TxAt wr b m d o) ∧ Hid (Below w.heap.size w wr)) (fun _ vi _ => n - (intOf vi).toNat)
  case atStart => exact ⟨0, none, 0, 0, [], rfl, rfl, Nat.zero_le _, Lib.hid rfl, Lib.hid (TxAt.nil _ _ _), Lib.hid (Below.refl _ _)⟩
  case round =>
    obtain ⟨j, b, m, d, o, rfl, rfl, hj, HO, HT, HB⟩ := hrel
    by_cases hjn : j < n
    · obtain ⟨pb, po, rfl, hpb, x0⟩ := (HA.out.keep HB.out).at_ j hjn
      have hm1 : m ≤ 1000000 := by
        have h1 := HT.out.1
        have h2 := canon_len (l.take j)
        rw [← HO.out, List.length_take] at h2
        omega
      have HC := Lib.hid (radd8_any b m d o (l.getD j []) wr HT.out (by rw [HO.out]; exact (HH.out.take j).canon) (HH.out.at_ j) hm1)
      have HN := Lib.hid (show insS (l.getD j []) o = canon (l.take (j + 1)) from by rw [HO.out]; exact canon_take (by rw [HL.out]; exact hjn))
      generalize insS (l.getD j []) o = o2 at *
      generalize bs (l.getD j []) = s at *
      go_wp2_with fail
      refine HC.out.mono ?_
      intro e W2 hmd
      obtain ⟨b2, d2, rfl, T2, B2⟩ := hmd.to
      replace T2 := Lib.hid T2
      have HB2 := Lib.hid (HB.out.trans (B2.mono HB.out.size))
      generalize o2.length = m2 at *
      clear hmd B2 HC
      go_wp2
      go_roundw
      case rel => exact ⟨j + 1, b2, m2, d2, o2, rfl, by go_num, by omega, HN, T2, HB2⟩
      case measure => simp [intOf]; omega
    · have HN := Lib.hid (show o = canon l from by have := HO.out; rwa [List.take_of_length_le (by rw [HL.out]; omega)] at this)
      have HF := Lib.hid (show SortP w (canon l) (.returned (.slice b m d)) wr from by rw [← HN.out]; exact ⟨b, d, by rw [HT.out.1], HT.out.len, HB.out⟩)
      obtain rfl : j = n := by omega
      go_wp2
      go_ret
      exact HF.out

theorem pick_take {l y : List Tx} {t : Bool} {j : Nat} (h : j < l.length) (k : (decide (l.getD j [] ∈ y) == t) = true) : insS (l.getD j []) (pickL (l.take j) y t) = pickL (l.take (j + 1)) y t := by
  unfold pickL
  rw [List.take_succ_eq_append_getElem h, ← getD_get h, List.filter_append, List.filter_cons_of_pos (p := fun z => decide (z ∈ y) == t) k]
  exact ss_ext (insS_ss (canon_ss _)) (canon_ss _) (fun z => by rw [mem_insS, mem_canon, mem_canon, List.mem_append, List.filter_nil, List.mem_singleton]; exact or_comm)
theorem pick_pass {l y : List Tx} {t : Bool} {j : Nat} (h : j < l.length) (k : (decide (l.getD j [] ∈ y) == t) = false) : pickL (l.take j) y t = pickL (l.take (j + 1)) y t := by
  unfold pickL
  rw [List.take_succ_eq_append_getElem h, ← getD_get h, List.filter_append, List.filter_cons_of_neg (p := fun z => decide (z ∈ y) == t) (by rw [k]; simp), List.filter_nil, List.append_nil]
theorem pick_len (l y : List Tx) (t : Bool) : (pickL l y t).length ≤ l.length := Nat.le_trans (canon_len _) (List.length_filter_le _ _)

set_option maxRecDepth 100000 in
set_option maxHeartbeats 2000000 in
theorem ror8_any (a : Option Addr) (n c : Nat) (x : List Tx) (a2 : Option Addr) (n2 c2 : Nat) (y : List Tx) (w : World) (h : TxAt w a n c x) (h2 : TxAt w a2 n2 c2 y) (hs : Sh x) (hs2 : Sh y) (hl : n + n2 ≤ 1000000) :
    Calls Tryz.prog 32 #[.slice a n c, .slice a2 n2 c2] w (SortP w (orL x y)) := by
  have B0 : Below w.heap.size w (w.alloc (.cells #[] 9)) := (Below.refl _ _).alloc (Nat.le_refl _) _
  have O0 : TRow (w.alloc (.cells #[] 9)) w.heap.size (.slice (some ⟨w.heap.size, 0, none⟩) 0 0) [] := World.ownsRow_made w #[] 0 (Nat.le_refl _) (Nat.zero_le _) rfl
  have HA := Lib.hid (h.keep B0)
  have HA2 := Lib.hid (fun W (b : Below w.heap.size w W) => h2.keep b)
  have hx := h.1
  have hy := h2.1
  have HO0 := Lib.hid O0
  have HB0 := Lib.hid B0
  have HS := Lib.hid (show Sh (x ++ y) from fun z hz => by rcases List.mem_append.1 hz with e | e; exact hs z e; exact hs2 z e)
  have HR := Lib.hid (canon_or x y)
  clear h h2 B0 O0 hs hs2
  go_enter Tryz.func32, Tryz.ntmps32
  go_wp2_with (at_builtin; refine wpList_append_tx rfl _ _ rfl w.heap.size _ [] rfl HO0.out a n c x rfl HA.out (by simp; omega) HB0.out.size ?_)
  intro v1 W1 O1 g1
  have B1 := TRow.bel HB0.out HB0.out.size HO0.out (Nat.le_refl _) g1
  have HO1 := Lib.hid O1
  have HB1 := Lib.hid B1
  clear O1 B1 g1 HO0 HB0
  go_wp2_with (at_builtin; refine wpList_append_tx rfl _ _ rfl w.heap.size _ x rfl HO1.out a2 n2 c2 y rfl (HA2.out _ HB1.out) (by omega) HB1.out.size ?_)
  intro v2 W2 O2 g2
  have B2 := TRow.bel HB1.out HB1.out.size HO1.out (Nat.le_refl _) g2
  obtain ⟨b, d, rfl, T2⟩ := O2.shape
  have HC := Lib.hid (rof8_any b _ d (x ++ y) W2 T2 HS.out (by rw [List.length_append]; omega))
  rw [HR.out] at HC
  have HB2 := Lib.hid B2
  clear O2 B2 g2 T2
  generalize (x ++ y).length = m at *
  go_wp2_with fail
  refine HC.out.mono ?_
  rintro e W3 ⟨b3, d3, rfl, T3, B3⟩
  have HF := Lib.hid (show SortP w (orL x y) (.returned (.slice b3 (orL x y).length d3)) W3 from ⟨b3, d3, rfl, T3, HB2.out.trans (B3.mono HB2.out.size)⟩)
  clear T3 B3
  generalize (orL x y).length = m3 at *
  go_wp2
  go_ret
  exact HF.out

end Go.Proofs.YtifjbbiphekmmaaGreatDoor
namespace Go.Proofs.YtifjbbiphekmmaaGreatDoor
namespace filterLists
open Go.ChangeShapes Go.WideShapes Go.ChangeAt Go.RowKit
open Go.ChangeMaps (open_string shut_string)
set_option linter.unusedVariables false
set_option linter.unusedSimpArgs false

theorem own : ownKnob Tryz.prog.godebug = none := by kernel_rfl

theorem box_off {τ : TypeId} {w : World} {r : Nat} {e : TmT} {p : Addr} {s : ByteArray} (h : BoxT τ w r e) (hb : p.block = r) (hc : w.cell? p = some (.string s)) : p.off = 0 := by
  obtain ⟨b, off, spot⟩ := p
  have hs : spot = none := World.cell?_spot hc
  subst hs
  have hb : b = r := hb
  subst hb
  rw [cell_of h] at hc
  match off with
  | 0 => rfl
  | 1 => simp at hc
  | 2 => simp at hc
  | k + 3 => simp at hc
theorem lb_far {τ : TypeId} {r : Nat} {w w' : World} {e : TmT} (t : Far r w w') (hr : BoxT τ w r e) {a : Option Addr} {n c : Nat} {l : List Lb} (h : LbAt w a n c l) : LbAt w' a n c l := by
  obtain ⟨h1, h2, h3, h5⟩ := h
  refine ⟨h1, h2, h3, ?_⟩
  rcases h5 with h0 | ⟨b, off, rfl, hlt, hc⟩
  · exact .inl h0
  · refine .inr ⟨b, off, rfl, Nat.lt_of_lt_of_le hlt t.size, fun i hi => ?_⟩
    have hne : b ≠ r := fun e => by
      have h1 := box_off hr (p := ⟨b, off + i * 2, none⟩) e (hc i hi).1
      have h2 := box_off hr (p := ⟨b, off + i * 2 + 1, none⟩) e (hc i hi).2
      simp only at h1 h2
      omega
    exact ⟨by rw [World.cell?_of_block (w := w) (t.block b hlt hne)]; exact (hc i hi).1, by rw [World.cell?_of_block (w := w) (t.block b hlt hne)]; exact (hc i hi).2⟩
theorem ix_far {τ : TypeId} {r : Nat} {w w' : World} {e : TmT} (t : Far r w w') (hr : BoxT τ w r e) {x bl bn : Nat} {ρ : Rho} {E : List Ent} (h : IxAt w x bl bn ρ E) : IxAt w' x bl bn ρ E := by
  have hm : ∀ i es c, w.heap[i]? = some (.map es c) → i ≠ r := fun i es c e e' => by rw [e'] at e; unfold BoxT at hr; rw [hr] at e; cases e
  have hx : x ≠ r := fun e => by
    have h1 := h.cell
    have h2 := hr
    unfold IxCell at h1
    unfold BoxT at h2
    rw [e, h2] at h1
    simp at h1
  have hbl : bl ≠ r := by
    obtain ⟨T, h1, _⟩ := h.labs
    obtain ⟨es, c, e⟩ := h1.isMap
    exact hm _ _ _ e
  have hF : ∀ i, FA ρ i → i ≠ r := fun i f => by
    cases e : ρ i with
    | none => exact absurd e f
    | some q =>
      obtain ⟨es, c, k⟩ := h.ok i q e
      exact hm _ _ _ k
  refine ⟨?_, h.rl, h.rn, ?_, ?_, fun i q e => ?_, h.good⟩
  · have h1 := h.cell
    unfold IxCell at *
    rw [t.block x (heap_lt h1) hx]; exact h1
  · obtain ⟨T, h1, h2, h3⟩ := h.labs
    refine ⟨T, h1.same (t.block bl h1.lt hbl), h2, fun p hp => ?_⟩
    obtain ⟨a, c, e, k⟩ := h3 p hp
    exact ⟨a, c, e, lb_far t hr k⟩
  · exact h.nams.same (t.block bn h.nams.lt (hF bn (by unfold FA; rw [h.rn]; simp))) (.refl _ _) (fun c hc f => t.block c hc (hF c f.a)) (fun _ _ _ => Iff.rfl)
  · obtain ⟨es, c, hb⟩ := h.ok i q e
    exact ⟨es, c, (t.block i (heap_lt hb) (hm _ _ _ hb)).trans hb⟩
theorem far_set {w : World} {r o : Nat} {v : Value} : Far r w (w.setCell ⟨r, o, none⟩ v) := ⟨rfl, rfl, rfl, by simp [World.setCell], fun i _ e => heap_set_ne e⟩
theorem box_no {τ : TypeId} {w : World} {r : Nat} {nm : Tx} {ng : Bool} {a : Option Addr} {n c : Nat} {l : List Tx} (h : BoxT τ w r ⟨nm, ng, a, n, c, l⟩) (v : Bool) : BoxT τ (w.setCell ⟨r, 1, none⟩ (.bool v)) r ⟨nm, v, a, n, c, l⟩ := heap_set h
theorem find_sh {E : List Ent} (hg : GoodE E) (ts : List Trm) : Sh (findT E ts) := fun k hk => by
  obtain ⟨l, h1, _⟩ := mem_findT.1 hk
  have := (hg.key _ h1).2
  simp only at this
  omega
theorem orAll_sh {E : List Ent} (hg : GoodE E) (n : Tx) (l : List Tx) : Sh (orAll E n [] l) := fun k hk => by
  rcases (mem_orAll E n l []).1 hk with h | ⟨v, _, h⟩
  · simp at h
  · exact find_sh hg _ k h
theorem find_few (E : List Ent) (ts : List Trm) : (findT E ts).length ≤ E.length := by unfold findT keysL; rw [List.length_map]; exact List.length_filter_le _ _
theorem tx_one {w : World} {a : Option Addr} {n c j b o : Nat} {l : List Tx} (h : TxAt w a n c l) (e : a = some ⟨b, o, none⟩) (hj : j < n) : TxAt w (some ⟨b, o + j, none⟩) 1 (c - j) [l.getD j []] := by
  have hc := h.2.1
  obtain ⟨b', o', e', hb, y⟩ := h.at_ j hj
  rw [e] at e'
  simp only [Option.some.injEq, Addr.mk.injEq] at e'
  obtain ⟨rfl, rfl, _⟩ := e'
  refine ⟨rfl, by omega, by omega, .inr ⟨b, o + j, rfl, hb, fun i hi => ?_⟩⟩
  obtain rfl : i = 0 := by omega
  exact y

set_option maxRecDepth 100000 in
set_option maxHeartbeats 16000000 in
theorem walk (a : Option Addr) (n c : Nat) (z : List OpL) (ta : TmT) (w : World) (h : OpAt w a n c z) (ha : TmOk w ta) :
    Calls Tryz.prog 8 #[.slice a n c, tmV ta] w fun e w' => e = .returned (.bool true) ∧ Below w.heap.size w w' := by
  obtain ⟨nm, ng, aa, m, c1, l⟩ := ta
  have B := Lib.hid ((Below.refl w.heap.size w).alloc (Nat.le_refl _) (.cells #[.string (bs nm), .bool ng, .slice aa m c1] 24))
  have TX1 : Hid (BoxT 24 (w.alloc (.cells #[.string (bs nm), .bool ng, .slice aa m c1] 24)) w.heap.size ⟨nm, ng, aa, m, c1, l⟩) := Lib.hid (heap_new w _)
  have HA0 := Lib.hid ha
  have TZ := Lib.hid (h.keep B.out)
  have hml : l.length = m := ha.1
  have hm63 := ha.2.2.1
  simp only at hm63
  have HML := Lib.hid hml
  clear ha h hml
  unfold tmV
  simp only
  go_enter Tryz.func8, Tryz.ntmps8
  go_wp2_with fail
  generalize w.alloc (.cells #[.string (bs nm), .bool ng, .slice aa m c1] 24) = W1 at *
  generalize hb1 : w.heap.size = b1 at TX1 ⊢
  have HB1 := Lib.hid hb1
  clear hb1
  refine (build10_any a n c z W1 TZ.out).mono ?_
  rintro e W2 ⟨x, bl, bn, ρ, r, ra, rn, rc, R, E, rfl, tw⟩
  have HF := Lib.hid tw.few
  have TX := Lib.hid tw.ix
  have br := tw.bel
  clear tw TZ
  replace B := Lib.hid (B.out.trans (br.mono B.out.size))
  replace TX1 := Lib.hid (TX1.out.keep br)
  clear br
  have y0 := TX1.out.x0
  have y1 := TX1.out.x1
  have y2 := TX1.out.x2
  simp only at y0 y1 y2
  go_wp2_with fail
  clear y0 y1 y2
  have C := light10_any ⟨nm, ng, aa, m, c1, l⟩ W2 (HA0.out.keep B.out)
  by_cases hA : lightT ⟨nm, ng, aa, m, c1, l⟩
  · rw [decide_eq_true hA] at C
    have HA := Lib.hid hA
    clear hA
    refine C.mono ?_
    clear C
    rintro e W3 ⟨rfl, br⟩
    replace B := Lib.hid (B.out.trans (br.mono B.out.size))
    replace TX1 := Lib.hid (TX1.out.keep br)
    replace TX := Lib.hid (TX.out.keep br)
    clear br
    by_cases hm0 : m = 0
    · subst hm0
      have y0 := TX1.out.x0
      have y1 := TX1.out.x1
      have y2 := TX1.out.x2
      simp only at y0 y1 y2
      go_wp2_with fail
      refine (known10_any _).mono ?_
      rintro e w9 ⟨rfl, b9⟩
      go_wp2
      go_ret
      exact ⟨rfl, B.out.trans (b9.mono B.out.size)⟩
    · have y0 := TX1.out.x0
      have y1 := TX1.out.x1
      have y2 := TX1.out.x2
      simp only at y0 y1 y2
      have hmz : ¬ (m : Int) = 0 := by omega
      have f1 := frozen_of (o := 1) TX1.out
      go_wp2_with fail
      clear y0 y1 y2
      clear f1
      have ff := far_set (w := W3) (r := b1) (o := 1) (v := .bool false)
      replace TX := Lib.hid (ix_far ff TX1.out TX.out)
      replace TX1 := Lib.hid (box_no TX1.out false)
      replace B := Lib.hid (Far.below B.out B.out.size ff (by have := HB1.out; omega))
      clear ff
      generalize W3.setCell ⟨b1, 1, none⟩ (.bool false) = W4 at *
      have hm1 : m ≤ 1000 := Nat.le_trans HA.out.1 (by omega)
      have hm30 : m ≤ 30 := HA.out.1
      have SHF := Lib.hid (fun ts => find_sh TX.out.good ts)
      have SHO := Lib.hid (fun l => orAll_sh TX.out.good nm l)
      have SSE := Lib.hid TX.out.good.ss
      have BW := Lib.hid (Below.refl W4.heap.size W4)
      have hmq : ((m : Int) == 0) = false := by simp; omega
      try simp only [hmq]
      clear hmq
      go_loopw [7, 8, 9] (fun v i u wr => ∃ (j : Nat) (oa : Option Addr) (on oc : Nat), j ≤ m ∧ i = .int .i64 (j : Int) ∧ v = .slice oa on oc ∧ Hid (TxAt wr oa on oc (orAll E nm [] (l.take j))) ∧ Hid (on ≤ 20 * j) ∧ Hid (Below W4.heap.size W4 wr)) (fun _ i _ _ => m - (intOf i).toNat)
      case atStart => exact ⟨0, none, 0, 0, by omega, rfl, rfl, Lib.hid (TxAt.nil _ _ _), Lib.hid (by omega), BW⟩
      case round =>
        clear BW
        obtain ⟨j, oa, on, oc, hj, rfl, rfl, TO, HON, BW⟩ := hrel
        replace TX1 := Lib.hid (TX1.out.keep BW.out)
        replace TX := Lib.hid (TX.out.keep BW.out)
        replace B := Lib.hid (B.out.trans (BW.out.mono B.out.size))
        have BW0 := BW
        clear BW
        have y0 := TX1.out.x0
        have y1 := TX1.out.x1
        have y2 := TX1.out.x2
        simp only at y0 y1 y2
        by_cases hjn : j < m
        · have hlt : (j : Int) < (m : Int) := by omega
          have HSN := Lib.hid (show orL (orAll E nm [] (l.take j)) (findT E [(nm, false, [l.getD j []])]) = orAll E nm [] (l.take (j + 1)) from by
            have hjl : j < l.length := by rw [HML.out]; exact hjn
            rw [List.take_succ_eq_append_getElem hjl, orAll_snoc, getD_get hjl])
          obtain ⟨kb, ko, e1, hkb, y9⟩ := (HA0.out.keep B.out).at_ j hjn
          simp only at e1
          subst e1
          have TV := Lib.hid (fun W (b : Below w.heap.size w W) => tx_one (HA0.out.keep b) rfl hjn)
          have hcap : m ≤ c1 := HA0.out.2.1
          have hj1 : j + 1 ≤ c1 := by omega
          have hwr : IntKind.i64.wrap ((j : Int) + 1) = (j : Int) + 1 := IntWalk.i64_in _ ⟨by omega, by omega⟩
          have hi1 : (0 : Int) ≤ (j : Int) + 1 := by omega
          have hi2 : (j : Int) + 1 ≤ (c1 : Int) := by omega
          have htn : ((j : Int) + 1).toNat = j + 1 := by omega
          have hi3 : j ≤ j + 1 := by omega
          have hi4 : ¬ c1 = j := by omega
          have hi5 : j + 1 - j = 1 := by omega
          simp only at TV y9
          clear y9
          obtain ⟨Fo, hFo⟩ : ∃ q, findT E [(nm, false, [l.getD j []])] = q := ⟨_, rfl⟩
          have HFO := Lib.hid hFo
          rw [hFo] at HSN
          clear hFo
          generalize l.getD j [] = vj at *
          go_wp2_with fail
          clear y0 y1 y2
          have HKS : Hid (∀ w' : World, Below wr.drew.heap.size wr.drew w' → w'.cell? ⟨b1, 0, none⟩ = some (.string (bs nm)) ∧ w'.cell? ⟨b1, 1, none⟩ = some (.bool false) ∧ w'.cell? ⟨b1, 2, none⟩ = some (.slice (some ⟨kb, ko, none⟩) m c1)) := Lib.hid (fun w' hb => ⟨((TX1.out.keep (Drew.bel (w := wr) (w' := wr.drew) ⟨1, rfl⟩)).keep hb).x0, ((TX1.out.keep (Drew.bel (w := wr) (w' := wr.drew) ⟨1, rfl⟩)).keep hb).x1, ((TX1.out.keep (Drew.bel (w := wr) (w' := wr.drew) ⟨1, rfl⟩)).keep hb).x2⟩)
          have br := Drew.bel (w := wr) (w' := wr.drew) ⟨1, rfl⟩
          replace B := Lib.hid (B.out.trans (br.mono B.out.size))
          replace TX1 := Lib.hid (TX1.out.keep br)
          replace TX := Lib.hid (TX.out.keep br)
          replace TO := Lib.hid (TO.out.keep br)
          replace BW0 := Lib.hid (BW0.out.trans (br.mono BW0.out.size))
          clear br
          refine wp_region_held_drew (S := fun w' => w'.cell? ⟨b1, 0, none⟩ = some (.string (bs nm)) ∧ w'.cell? ⟨b1, 1, none⟩ = some (.bool false) ∧ w'.cell? ⟨b1, 2, none⟩ = some (.slice (some ⟨kb, ko, none⟩) m c1)) (by as_aux_lemma => kernel_rfl) ?_ (fun hHeld => ?_)
          · exact HKS.out _ (Below.refl _ _)
          generalize wr.drew = W5 at *
          have BR := Lib.hid (Below.refl W5.heap.size W5)
          refine op_take (i := 0) (v := ?_) rfl (by as_aux_lemma => kernel_rfl) (by as_aux_lemma => kernel_rfl) (by as_aux_lemma => kernel_rfl) (fun _ _ _ h => h) (Or.inl ⟨by rfl, ?_⟩) (by assumption) ?_
          rotate_left
          · (intro w hSw; (try dsimp only at hSw); go_simp) <;> (with_reducible rfl)
          try simp only [Act.put, List.setIfInBounds_toArray, List.set_cons_zero, List.set_cons_succ]
          refine op_take (i := 1) (v := ?_) rfl (by as_aux_lemma => kernel_rfl) (by as_aux_lemma => kernel_rfl) (by as_aux_lemma => kernel_rfl) (fun _ _ _ h => h) (Or.inl ⟨by rfl, ?_⟩) (by assumption) ?_
          rotate_left
          · (intro w hSw; (try dsimp only at hSw); go_simp) <;> (with_reducible rfl)
          try simp only [Act.put, List.setIfInBounds_toArray, List.set_cons_zero, List.set_cons_succ]
          refine op_take (i := 2) (v := ?_) rfl (by as_aux_lemma => kernel_rfl) (by as_aux_lemma => kernel_rfl) (by as_aux_lemma => kernel_rfl) (fun _ _ _ h => h) (Or.inl ⟨by rfl, ?_⟩) (by assumption) ?_
          rotate_left
          · (intro w hSw; (try dsimp only at hSw); go_simp) <;> (with_reducible rfl)
          try simp only [Act.put, List.setIfInBounds_toArray, List.set_cons_zero, List.set_cons_succ]
          refine op_take (i := 3) (v := ?_) rfl (by as_aux_lemma => kernel_rfl) (by as_aux_lemma => kernel_rfl) (by as_aux_lemma => kernel_rfl) (fun _ _ _ h => h) (Or.inl ⟨by rfl, ?_⟩) (by assumption) ?_
          rotate_left
          · (intro w hSw; (try dsimp only at hSw); go_simp) <;> (with_reducible rfl)
          try simp only [Act.put, List.setIfInBounds_toArray, List.set_cons_zero, List.set_cons_succ]
          refine op_take (i := 4) (v := ?_) rfl (by as_aux_lemma => kernel_rfl) (by as_aux_lemma => kernel_rfl) (by as_aux_lemma => kernel_rfl) (fun _ _ _ h => h) (Or.inl ⟨by rfl, ?_⟩) (by assumption) ?_
          rotate_left
          · (intro w hSw; (try dsimp only at hSw); go_simp) <;> (with_reducible rfl)
          try simp only [Act.put, List.setIfInBounds_toArray, List.set_cons_zero, List.set_cons_succ]
          refine op_take (i := 5) (v := ?_) rfl (by as_aux_lemma => kernel_rfl) (by as_aux_lemma => kernel_rfl) (by as_aux_lemma => kernel_rfl) (fun _ _ _ h => h) (Or.inl ⟨by rfl, ?_⟩) (by assumption) ?_
          rotate_left
          · (intro w hSw; (try dsimp only at hSw); go_simp) <;> (with_reducible rfl)
          try simp only [Act.put, List.setIfInBounds_toArray, List.set_cons_zero, List.set_cons_succ]
          refine op_take (i := 6) (v := ?_) rfl (by as_aux_lemma => kernel_rfl) (by as_aux_lemma => kernel_rfl) (by as_aux_lemma => kernel_rfl) (fun _ _ _ h => h) (Or.inl ⟨by rfl, ?_⟩) (by assumption) ?_
          rotate_left
          · (intro w hSw; (try dsimp only at hSw); go_simp) <;> (with_reducible rfl)
          try simp only [Act.put, List.setIfInBounds_toArray, List.set_cons_zero, List.set_cons_succ]
          refine op_take (i := 7) (v := ?_) rfl (by as_aux_lemma => kernel_rfl) (by as_aux_lemma => kernel_rfl) (by as_aux_lemma => kernel_rfl) (fun _ _ _ h => h) (Or.inl ⟨by rfl, ?_⟩) (by assumption) ?_
          rotate_left
          · (intro w hSw; (try dsimp only at hSw); go_simp) <;> (with_reducible rfl)
          try simp only [Act.put, List.setIfInBounds_toArray, List.set_cons_zero, List.set_cons_succ]
          refine op_take (i := 8) (v := ?_) rfl (by as_aux_lemma => kernel_rfl) (by as_aux_lemma => kernel_rfl) (by as_aux_lemma => kernel_rfl) (fun _ _ _ h => h) (Or.inl ⟨by rfl, ?_⟩) (by assumption) ?_
          rotate_left
          · (intro w hSw; (try dsimp only at hSw); go_simp) <;> (with_reducible rfl)
          try simp only [Act.put, List.setIfInBounds_toArray, List.set_cons_zero, List.set_cons_succ]
          refine op_take (i := 9) (v := ?_) rfl (by as_aux_lemma => kernel_rfl) (by as_aux_lemma => kernel_rfl) (by as_aux_lemma => kernel_rfl) (fun _ _ _ h => h) (Or.inl ⟨by rfl, ?_⟩) (by assumption) ?_
          rotate_left
          · (intro w hSw; (try dsimp only at hSw); go_simp) <;> (with_reducible rfl)
          try simp only [Act.put, List.setIfInBounds_toArray, List.set_cons_zero, List.set_cons_succ]
          refine op_one (i := 10) (by as_aux_lemma => kernel_rfl) rfl (fun K hK => ?_)
          go_simp
          have TM := Lib.hid (show TmsAt (W5.alloc (.cells #[.string (bs nm), .bool false, .slice (some ⟨kb, ko + j, none⟩) 1 (c1 - j)] 24)) (some ⟨W5.heap.size, 0, none⟩) 1 1 [⟨nm, false, (some ⟨kb, ko + j, none⟩), 1, (c1 - j), [vj]⟩] from ⟨TmAt.oneFT W5 ⟨nm, false, (some ⟨kb, ko + j, none⟩), 1, (c1 - j), [vj]⟩, fun e he => by rw [List.mem_singleton] at he; subst he; exact TV.out _ (B.out.trans ((BR.out.alloc BR.out.size _).mono B.out.size))⟩)
          have br := (Below.refl W5.heap.size W5).alloc (Nat.le_refl _) (.cells #[.string (bs nm), .bool false, .slice (some ⟨kb, ko + j, none⟩) 1 (c1 - j)] 24)
          replace BR := Lib.hid (BR.out.trans (br.mono BR.out.size))
          clear br
          generalize W5.alloc (.cells #[.string (bs nm), .bool false, .slice (some ⟨kb, ko + j, none⟩) 1 (c1 - j)] 24) = U1 at *
          generalize W5.heap.size = bM at TM ⊢
          refine hK.out _ _ (HKS.out _ BR.out) (fun hHeld2 => ?_)
          clear hK K
          try clear hHeld
          have hHeld := hHeld2
          clear hHeld2
          try simp only [Act.put, List.setIfInBounds_toArray, List.set_cons_zero, List.set_cons_succ]
          refine op_one (i := 11) (by as_aux_lemma => kernel_rfl) rfl (fun K hK => ?_)
          go_simp
          have C := find10_any _ E (some ⟨bM, 0, none⟩) 1 1 [⟨nm, false, (some ⟨kb, ko + j, none⟩), 1, (c1 - j), [vj]⟩] U1 (.inr ⟨x, bl, bn, ρ, rfl, TX.out.keep BR.out⟩) (Nat.le_trans HF.out (by omega)) TM.out (fun e he => by rw [List.mem_singleton] at he; subst he; exact (by omega : 1 ≤ 1000))
          rw [show findT E (trms [⟨nm, false, (some ⟨kb, ko + j, none⟩), 1, (c1 - j), [vj]⟩]) = Fo from HFO.out] at C
          refine C.mono ?_
          clear C
          rintro e U2 ⟨a_f, c_f, rfl, t0, br⟩
          have TF := Lib.hid t0
          clear t0
          replace BR := Lib.hid (BR.out.trans (br.mono BR.out.size))
          replace TM := Lib.hid (TM.out.keep br)
          clear br
          clear TM
          try go_wp2_with fail
          refine hK.out _ _ (HKS.out _ BR.out) (fun hHeld2 => ?_)
          clear hK K
          try clear hHeld
          have hHeld := hHeld2
          clear hHeld2
          try simp only [Act.put, List.setIfInBounds_toArray, List.set_cons_zero, List.set_cons_succ]
          refine op_take (i := 12) (v := ?_) rfl (by as_aux_lemma => kernel_rfl) (by as_aux_lemma => kernel_rfl) (by as_aux_lemma => kernel_rfl) (fun _ _ _ h => h) (Or.inl ⟨by rfl, ?_⟩) (by assumption) ?_
          rotate_left
          · (intro w hSw; (try dsimp only at hSw); go_simp) <;> (with_reducible rfl)
          try simp only [Act.put, List.setIfInBounds_toArray, List.set_cons_zero, List.set_cons_succ]
          refine wpAnyH_done (by as_aux_lemma => kernel_rfl) ?_ _
          have br := BR.out
          clear HKS hHeld TX1 TX
          replace B := Lib.hid (B.out.trans (br.mono B.out.size))
          replace TO := Lib.hid (TO.out.keep br)
          replace BW0 := Lib.hid (BW0.out.trans (br.mono BW0.out.size))
          clear br BR
          go_wp2_with fail
          have hfo : Fo.length ≤ 20 := by rw [← HFO.out]; exact Nat.le_trans (find_few _ _) HF.out
          have hon := HON.out
          have hol : (orL (orAll E nm [] (l.take j)) Fo).length ≤ on + Fo.length := by have h1 := TO.out.1; rw [← h1]; exact take_len ..
          rw [HSN.out] at hol
          have C := ror8_any oa on oc (orAll E nm [] (l.take j)) a_f Fo.length c_f Fo U2 TO.out TF.out (SHO.out _) (HFO.out ▸ SHF.out _) (by omega)
          rw [HSN.out] at C
          refine C.mono ?_
          clear C
          rintro e W6 ⟨na, nc, rfl, t0, br⟩
          have TN := Lib.hid t0
          replace BW0 := Lib.hid (BW0.out.trans (br.mono BW0.out.size))
          clear t0 br TO TF
          obtain ⟨nn, hnn⟩ : ∃ q, (orAll E nm [] (l.take (j + 1))).length = q := ⟨_, rfl⟩
          rw [hnn] at hol TN ⊢
          have HNN := Lib.hid (show nn ≤ 20 * (j + 1) from by omega)
          clear hnn hol
          go_wp2
          go_roundw
          case rel => exact ⟨j + 1, na, nn, nc, by omega, by go_num, rfl, TN, HNN, BW0⟩
          case measure => simp [intOf]; omega
        · have hlt : ¬ (j : Int) < (m : Int) := by omega
          obtain rfl : j = m := by omega
          have hlv : l ≠ [] := fun e => by have h1 := HML.out; rw [e] at h1; simp at h1; omega
          rw [show l.take j = l from by rw [← HML.out, List.take_length]] at TO
          have HLF := Lib.hid (lists_find SSE.out nm hlv)
          have HLS := Lib.hid (lists_some SSE.out nm l)
          obtain ⟨Fo, hFo⟩ : ∃ q, orAll E nm [] l = q := ⟨_, rfl⟩
          obtain ⟨Fs, hFs⟩ : ∃ q, findT E [(nm, true, [])] = q := ⟨_, rfl⟩
          have SO := Lib.hid (hFo ▸ SHO.out l)
          have SS_ := Lib.hid (hFs ▸ SHF.out [(nm, true, [])])
          have hfs : Fs.length ≤ 20 := by rw [← hFs]; exact Nat.le_trans (find_few _ _) HF.out
          rw [hFo] at TO HLF HLS
          rw [hFs] at HLS
          have HFS := Lib.hid hFs
          clear hFo hFs hjn hlv
          have br := (Below.refl wr.heap.size wr).alloc (Nat.le_refl _) (.cells #[.string (bs nm), .bool true, .slice none 0 0] 24)
          go_wp2_with fail
          clear y0 y1 y2
          replace B := Lib.hid (B.out.trans (br.mono B.out.size))
          replace TX1 := Lib.hid (TX1.out.keep br)
          replace TX := Lib.hid (TX.out.keep br)
          replace TO := Lib.hid (TO.out.keep br)
          have TM := Lib.hid (show TmsAt (wr.alloc (.cells #[.string (bs nm), .bool true, .slice none 0 0] 24)) (some ⟨wr.heap.size, 0, none⟩) 1 1 [⟨nm, true, none, 0, 0, []⟩] from ⟨TmAt.oneFT wr ⟨nm, true, none, 0, 0, []⟩, fun e he => by rw [List.mem_singleton] at he; subst he; exact TxAt.nil _ _ _⟩)
          clear br
          generalize wr.alloc (.cells #[.string (bs nm), .bool true, .slice none 0 0] 24) = W7 at *
          generalize wr.heap.size = b_s at TM ⊢
          have C := find10_any _ E (some ⟨b_s, 0, none⟩) 1 1 [⟨nm, true, none, 0, 0, []⟩] W7 (.inr ⟨x, bl, bn, ρ, rfl, TX.out⟩) (Nat.le_trans HF.out (by omega)) TM.out (fun e he => by rw [List.mem_singleton] at he; subst he; exact (by omega : 0 ≤ 1000))
          rw [show findT E (trms [⟨nm, true, none, 0, 0, []⟩]) = Fs from HFS.out] at C
          refine C.mono ?_
          clear C TM
          rintro e W8 ⟨a_s, c_s, rfl, t0, br⟩
          have Ts := Lib.hid t0
          clear t0
          replace B := Lib.hid (B.out.trans (br.mono B.out.size))
          replace TX1 := Lib.hid (TX1.out.keep br)
          replace TX := Lib.hid (TX.out.keep br)
          replace TO := Lib.hid (TO.out.keep br)
          clear br
          have y0 := TX1.out.x0
          have y1 := TX1.out.x1
          have y2 := TX1.out.x2
          simp only at y0 y1 y2
          have br := (Below.refl W8.heap.size W8).alloc (Nat.le_refl _) (.cells #[.string (bs nm), .bool false, .slice aa j c1] 24)
          go_wp2_with fail
          clear y0 y1 y2
          replace B := Lib.hid (B.out.trans (br.mono B.out.size))
          replace TX1 := Lib.hid (TX1.out.keep br)
          replace TX := Lib.hid (TX.out.keep br)
          replace TO := Lib.hid (TO.out.keep br)
          replace Ts := Lib.hid (Ts.out.keep br)
          have TM := Lib.hid (show TmsAt (W8.alloc (.cells #[.string (bs nm), .bool false, .slice aa j c1] 24)) (some ⟨W8.heap.size, 0, none⟩) 1 1 [⟨nm, false, aa, j, c1, l⟩] from ⟨TmAt.oneFT W8 ⟨nm, false, aa, j, c1, l⟩, fun e he => by rw [List.mem_singleton] at he; subst he; exact (HA0.out.keep B.out)⟩)
          clear br
          generalize W8.alloc (.cells #[.string (bs nm), .bool false, .slice aa j c1] 24) = W9 at *
          generalize W8.heap.size = b_t at TM ⊢
          have C := find10_any _ E (some ⟨b_t, 0, none⟩) 1 1 [⟨nm, false, aa, j, c1, l⟩] W9 (.inr ⟨x, bl, bn, ρ, rfl, TX.out⟩) (Nat.le_trans HF.out (by omega)) TM.out (fun e he => by rw [List.mem_singleton] at he; subst he; exact (by omega : j ≤ 1000))
          rw [show findT E (trms [⟨nm, false, aa, j, c1, l⟩]) = Fo from HLF.out] at C
          refine C.mono ?_
          clear C TM
          rintro e W10 ⟨a_t, c_t, rfl, t0, br⟩
          have Tt := Lib.hid t0
          clear t0
          replace B := Lib.hid (B.out.trans (br.mono B.out.size))
          replace TX1 := Lib.hid (TX1.out.keep br)
          replace TX := Lib.hid (TX.out.keep br)
          replace TO := Lib.hid (TO.out.keep br)
          replace Ts := Lib.hid (Ts.out.keep br)
          clear br
          obtain ⟨no, hno⟩ : ∃ q, Fo.length = q := ⟨_, rfl⟩
          obtain rfl : on = no := by rw [← hno]; exact TO.out.1.symm
          have hon := HON.out
          rw [hno] at Tt ⊢
          go_wp2_with fail
          have C := same8_any a_t on c_t Fo oa on oc Fo W10 Tt.out TO.out
          rw [decide_eq_true (rfl : Fo = Fo)] at C
          refine C.mono ?_
          clear C
          rintro e W11 ⟨rfl, dr⟩
          have br := dr.bel
          clear dr
          replace B := Lib.hid (B.out.trans (br.mono B.out.size))
          replace TX1 := Lib.hid (TX1.out.keep br)
          replace TX := Lib.hid (TX.out.keep br)
          replace TO := Lib.hid (TO.out.keep br)
          replace Ts := Lib.hid (Ts.out.keep br)
          replace Tt := Lib.hid (Tt.out.keep br)
          clear br
          go_wp2_with fail
          have C := ror8_any a_s Fs.length c_s Fs oa on oc Fo W11 Ts.out TO.out SS_.out SO.out (by omega)
          rw [HLS.out] at C
          refine C.mono ?_
          clear C
          rintro e W12 ⟨a_p, c_p, rfl, t0, br⟩
          have Tp := Lib.hid t0
          clear t0
          replace B := Lib.hid (B.out.trans (br.mono B.out.size))
          replace TX1 := Lib.hid (TX1.out.keep br)
          replace TX := Lib.hid (TX.out.keep br)
          replace TO := Lib.hid (TO.out.keep br)
          replace Ts := Lib.hid (Ts.out.keep br)
          replace Tt := Lib.hid (Tt.out.keep br)
          clear br
          go_wp2_with fail
          have C := same8_any a_p Fs.length c_p Fs a_s Fs.length c_s Fs W12 Tp.out Ts.out
          rw [decide_eq_true (rfl : Fs = Fs)] at C
          refine C.mono ?_
          clear C
          rintro e W13 ⟨rfl, dr⟩
          have br := dr.bel
          clear dr
          replace B := Lib.hid (B.out.trans (br.mono B.out.size))
          replace TX1 := Lib.hid (TX1.out.keep br)
          replace TX := Lib.hid (TX.out.keep br)
          replace TO := Lib.hid (TO.out.keep br)
          replace Ts := Lib.hid (Ts.out.keep br)
          replace Tt := Lib.hid (Tt.out.keep br)
          replace Tp := Lib.hid (Tp.out.keep br)
          clear br
          go_wp2_with fail
          refine (known10_any _).mono ?_
          rintro e w9 ⟨rfl, b9⟩
          go_wp2
          go_ret
          exact ⟨rfl, B.out.trans (b9.mono B.out.size)⟩
  · rw [decide_eq_false hA] at C
    refine C.mono ?_
    clear C
    rintro e W14 ⟨rfl, br⟩
    replace B := Lib.hid (B.out.trans (br.mono B.out.size))
    replace TX1 := Lib.hid (TX1.out.keep br)
    replace TX := Lib.hid (TX.out.keep br)
    clear br
    go_wp2_with fail
    refine (known10_any _).mono ?_
    rintro e w9 ⟨rfl, b9⟩
    go_wp2
    go_ret
    exact ⟨rfl, B.out.trans (b9.mono B.out.size)⟩
set_option maxRecDepth 100000 in
theorem lifted (os : Os) (started : os.Started) (H : Type) (enc : TypeId × Value → H) :
    ReturnsInHanded {} Tryz.checked os 8 .any (fun w args => (Rows.filterListsSpec.pre enc Tryz.prog Tryz.f8 [] false w args ∧ laidMetH Tryz.prog laidL w) ∧ sizedMet enc Tryz.prog Tryz.f8 (OpenSpec.ofChange Rows.filterListsSpec) false w args)
      (Rows.filterListsSpec.post enc Tryz.prog Tryz.f8 false true false false) := by
  refine returnsInHanded_of_change_and (C := Tryz.checked) (X := fun w _ => laidMetH Tryz.prog laidL w) (fun _ _ _ hh h => h.of_heap hh) own started (by kernel_rfl) Tryz.func8
    (ChangeSpec.witness_shaped (enc := enc) (C := Tryz.checked) (os := os) (X := fun w _ => laidMetH Tryz.prog laidL w) false (World.laidAll Tryz.prog os laidL) #[.slice none 0 0, .agg #[.string ByteArray.empty, .bool false, .slice none 0 0]] 8 (World.laidAll_os _ _ _) (door_shape os _) (by kernel_rfl) (by kernel_rfl) (by kernel_rfl) (door_met os _)) ?_
  intro W base args ds gs before hval0 hW _ _ hL _
  have hval : ∀ (j : Nat) t v, Tryz.f8.params[j]? = some t → args[j]? = some v → Value.okWide Tryz.prog W .any base t v := hval0
  have hW' := hW
  obtain ⟨p, q, hA0, hV, rfl, hfz, hnd⟩ := hW
  have hA : DataW.TrodAll enc Tryz.prog W 0 (fun _ => true) true Tryz.f8.params.toList args.toList ds p := hA0
  rw [Tryz.params8] at hA hval
  obtain ⟨v0, vs0, d0, ds0, p0, q0, hargs, rfl, rfl, h0, r0⟩ := trodAll_cons hA
  obtain ⟨v1, vs1, d1, ds1, p1, q1, rfl, rfl, rfl, h1, r1⟩ := trodAll_cons r0
  obtain ⟨rfl, rfl, rfl⟩ := trodAll_nil r1
  obtain rfl : args = #[v0, v1] := by cases args; simp_all
  obtain ⟨rfl, rfl⟩ := trodVars_none hV
  obtain ⟨a0, len0, cap0, rfl⟩ := okWide_slice Tryz.underlying51 (hval 0 51 v0 rfl rfl)
  have k0 := h0
  have lt0 : ∀ x ∈ p0, x.block < W.heap.size := by obtain ⟨m, hm⟩ := k0; exact DataW.trod_lt m _ _ _ hm
  obtain ⟨z0, w0⟩ := open_ops9 h0
  have k1 := h1
  have lt1 : ∀ x ∈ p1, x.block < W.heap.size := by obtain ⟨m, hm⟩ := k1; exact DataW.trod_lt m _ _ _ hm
  obtain ⟨a1, rfl, w1⟩ := open_tm10 (hval 1 24 v1 rfl rfl) h1
  clear hA0 hval0
  refine (walk a0 len0 cap0 z0 a1 W w0 w1).mono fun e W' ⟨he, bel⟩ => ?_
  subst he
  exact ⟨_, rfl, _, _, _, [], _, [], hW', trodAll_mk1 (shut_bool Tryz.underlying4 _), (trodAll_cons_mk (Below.trod laidOut (by kernel_rfl) (of_decide_eq_true (by kernel_rfl)) k0 bel lt0) (trodAll_cons_mk (Below.trod laidOut (by kernel_rfl) (of_decide_eq_true (by kernel_rfl)) k1 bel lt1) trodAll_mk0)), rfl, bel.frame _, fun h => by cases h⟩

theorem over : Rows.filterListsRow.holds Tryz.pinned (OpenSpec.ofChange Rows.filterListsSpec) :=
  OpenClaim.holds_of_wide 8 Tryz.f8 rfl rfl rfl rfl rfl rfl rfl ⟨rfl, rfl, rfl, rfl, rfl⟩ rfl rfl rfl rfl rfl (by kernel_rfl) Tryz.func8 (by kernel_rfl)
    (of_decide_eq_true (by kernel_rfl)) (by unfold Func.isWrapper; first | (rw [if_pos (by decide +kernel)]; kernel_rfl) | (rw [if_neg (by decide +kernel)]; exact ⟨rfl, rfl⟩))
    (fun os started H enc _ => lifted os started H enc)

theorem proved : Rows.FilterListsCardSaid :=
  Claim7.holds_tied_plain_at .later [] Rows.filterListsCard.laidKinds true Rows.filterListsCard.stood.harness false
    over (fun _ h => by cases h) (by kernel_rfl) (fun _ h => by cases h) filterLists_row_tie rfl ⟨rfl, rfl⟩ (by kernel_rfl) rfl
    (fun f fn hf hfn => by
      obtain rfl : f = 8 := Option.some.inj ((show Tryz.prog.funcNamed "tachograph/tachographlaw10.FilterLists" = some 8 by kernel_rfl).symm.trans hf) |>.symm
      obtain rfl : fn = Tryz.f8 := (Option.some.inj (Tryz.func8.symm.trans hfn)).symm
      exact ⟨by kernel_rfl, fun j t ht => by
        rw [Tryz.params8] at ht
        have hm : t ∈ [51, 24] := by simpa using Array.mem_of_getElem? ht
        have hall : ([51, 24].all fun u => !Tryz.prog.wantsStandIn u) = true := by kernel_rfl
        exact (show Tryz.prog.wantsStandIn t = false by simpa using List.all_eq_true.1 hall t hm)⟩)
    (by kernel_rfl)
end filterLists
theorem filterLists_holds : Rows.FilterListsCardSaid := filterLists.proved
#print axioms filterLists_holds
end Go.Proofs.YtifjbbiphekmmaaGreatDoor
