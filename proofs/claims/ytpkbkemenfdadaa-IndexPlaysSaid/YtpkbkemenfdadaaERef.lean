/-
  Contracts of the document's answers of layer 8: Add, Of, Pick, Or.
-/
import Derived.Test.YtpkbkemenfdadaaEOps
namespace Go.Proofs.Ytpkbkemenfdadaa
open Go.RowKit
set_option linter.unusedVariables false
set_option linter.unusedSimpArgs false

theorem TRow.alloc {w : World} {base : Nat} {v : Value} {l : List Tx} (h : TRow w base v l) (o : Obj) : TRow (w.alloc o) base v l := h.keep ((Below.refl _ _).alloc (Nat.le_refl _) o)
theorem insS_lt {x y : Tx} {l : List Tx} (h : y < x) : insS x (y :: l) = y :: insS x l := if_pos h
theorem insS_eq {y : Tx} {l : List Tx} : insS y (y :: l) = y :: l := by rw [insS, if_neg (lt_no y), if_pos rfl]
theorem insS_gt {x y : Tx} {l : List Tx} (h : ¬ y < x) (k : y ≠ x) : insS x (y :: l) = x :: y :: l := by rw [insS, if_neg h, if_neg k]
theorem drop_at {l : List Tx} {j : Nat} (h : j < l.length) : l.drop j = l.getD j [] :: l.drop (j + 1) := by rw [getD_get h]; exact List.drop_eq_getElem_cons h

set_option maxRecDepth 100000 in
set_option maxHeartbeats 4000000 in
theorem radd8_any (a : Option Addr) (n c : Nat) (l : List Tx) (x : Tx) (w : World) (h : TxAt w a n c l) (hs : Sh l) (hx : x.length ≤ 9223372036854775807) (hl : n ≤ 1000000) :
    Calls Try.prog 37 #[.slice a n c, .string (bs x)] w (MadeP w (insS x l)) := by
  have HA := Lib.hid h
  have HL := Lib.hid h.1
  have hm := h.2.2.1
  have HH := Lib.hid hs
  have HM0 := Lib.hid (show ([] : List Tx) ++ insS x (l.drop 0) = insS x l from rfl)
  clear h hs
  go_enter Try.func37, Try.ntmps37
  go_wp2_with fail
  go_loopw [5, 6] (fun vo vi wr => ∃ (j : Nat) (o : List Tx), vi = .int .i64 (j : Int) ∧ j ≤ n ∧ Hid (o.length = j) ∧ Hid (TRow wr w.heap.size vo o) ∧ Hid (Below w.heap.size w wr) ∧ Hid (o ++ insS x (l.drop j) = insS x l)) (fun _ vi _ => n - (intOf vi).toNat)
  case atStart => exact ⟨0, [], rfl, Nat.zero_le _, Lib.hid rfl, Lib.hid (TRow.nil _ _), Lib.hid (Below.refl _ _), HM0⟩
  case round =>
    obtain ⟨j, o, rfl, hj, HN, HO, HB, HM⟩ := hrel
    by_cases hjn : j < n
    · have hjz : (j : Int) < (n : Int) := by omega
      have T1 := HA.out.keep HB.out
      obtain ⟨pb, po, e1, hpb, x0⟩ := T1.at_ j hjn
      have HBL := Lib.hid (fun W => rbelow_any (l.getD j []) x W (HH.out.at_ j) hx)
      have HD := Lib.hid (drop_at (l := l) (j := j) (by rw [HL.out]; exact hjn))
      subst e1
      clear T1
      by_cases he : l.getD j [] < x
      · have HN2 := Lib.hid (show (o ++ [l.getD j []]) ++ insS x (l.drop (j + 1)) = insS x l from by rw [← HM.out, HD.out, insS_lt he, List.append_assoc]; rfl)
        rw [decide_eq_true he] at HBL
        obtain ⟨y, hy⟩ : ∃ y, l.getD j [] = y := ⟨_, rfl⟩
        rw [hy] at HBL HN2 x0
        clear hy he HM HD
        go_wp2_with fail
        refine (HBL.out _).mono ?_
        rintro e W2 ⟨rfl, hd⟩
        have x1 : W2.cell? ⟨pb, po + j, none⟩ = some (.string (bs y)) := by rw [hd.bel.cell hpb]; exact x0
        have O1 := HO.out.keep hd.bel
        have B1 := bel_gbn HB.out HB.out.size (hd.gb none)
        have B0 := (Below.refl W2.heap.size W2).alloc (Nat.le_refl _) (.cells #[.string (bs y)] 9)
        have HO2 := Lib.hid (O1.alloc (.cells #[.string (bs y)] 9))
        have HT2 := Lib.hid (TxAt.one W2 y)
        have HB2 := Lib.hid (B1.trans (B0.mono B1.size))
        clear B0
        clear O1 B1 x0 HO HB hd HBL
        generalize bs y = sp at *
        go_wp2_with (at_builtin; refine wpList_append_tx rfl _ _ rfl w.heap.size _ o rfl HO2.out _ 1 1 [y] rfl HT2.out (by rw [HN.out]; omega) HB2.out.size ?_)
        intro v3 W3 O3 g3
        have B3 := TRow.bel HB2.out HB2.out.size HO2.out (Nat.le_refl _) g3
        clear HO2 HB2 HT2 g3
        go_wp2
        go_roundw
        case rel => exact ⟨j + 1, _, by go_num, by omega, Lib.hid (by rw [List.length_append, HN.out]; rfl), Lib.hid O3, Lib.hid B3, HN2⟩
        case measure => simp [intOf]; omega
      · have x00 : w.cell? ⟨pb, po + j, none⟩ = some (.string (bs (l.getD j []))) := by
          obtain ⟨pb', po', e2, hpb', x00⟩ := HA.out.at_ j hjn
          simp only [Option.some.injEq, Addr.mk.injEq] at e2
          obtain ⟨rfl, rfl, _⟩ := e2
          exact x00
        have hpw : pb < w.heap.size := by
          obtain ⟨pb', po', e2, hpb', _⟩ := HA.out.at_ j hjn
          simp only [Option.some.injEq, Addr.mk.injEq] at e2
          obtain ⟨rfl, rfl, _⟩ := e2
          exact hpb'
        by_cases ke : l.getD j [] = x
        · have HN2 := Lib.hid (show (o ++ [x]) ++ l.drop (j + 1) = insS x l from by rw [← HM.out, HD.out, ke, insS_eq, List.append_assoc]; rfl)
          have t1 := eq_bs (l.getD j []) x
          rw [decide_eq_true ke] at t1
          rw [decide_eq_false he] at HBL
          obtain ⟨a3, hs3, T3⟩ := HA.out.from_ (j + 1) (by omega)
          have HT3 := Lib.hid T3
          clear ke he HM HD T3
          generalize bs (l.getD j []) = sy at *
          go_wp2_with fail
          refine (HBL.out _).mono ?_
          rintro e W2 ⟨rfl, hd⟩
          have O1 := HO.out.keep hd.bel
          have B1 := bel_gbn HB.out HB.out.size (hd.gb none)
          have B0 := (Below.refl W2.heap.size W2).alloc (Nat.le_refl _) (.cells #[.string (bs x)] 9)
          have HO2 := Lib.hid (O1.alloc (.cells #[.string (bs x)] 9))
          have HT2 := Lib.hid (TxAt.one W2 x)
          have HB2 := Lib.hid (B1.trans (B0.mono B1.size))
          clear B0
          have x1 : ∀ W3, Below w.heap.size w W3 → W3.cell? ⟨pb, po + j, none⟩ = some (.string sy) := fun W3 b3 => by rw [b3.cell hpw]; exact x00
          clear O1 B1 HO HB hd HBL
          obtain ⟨sx, hsx⟩ : ∃ sx, bs x = sx := ⟨_, rfl⟩
          rw [hsx] at HT2 HO2 HB2 t1 ⊢
          go_wp2_with (at_builtin; refine wpList_append_tx rfl _ _ rfl w.heap.size _ o rfl HO2.out _ 1 1 [x] rfl HT2.out (by rw [HN.out]; omega) HB2.out.size ?_)
          intro v3 W3 O3 g3
          have B3 := TRow.bel HB2.out HB2.out.size HO2.out (Nat.le_refl _) g3
          have y1 := x1 W3 B3
          have HT4 := Lib.hid (HT3.out.keep B3)
          have HO4 := Lib.hid O3
          have HB4 := Lib.hid B3
          clear HO2 HB2 HT2 g3 O3 B3 x1
          have hs4 : ∀ W : World, (Instr.slice 44 (.slice (some ⟨pb, po, none⟩) n c) (some (.int .i64 ((j : Int) + 1))) none none).run Try.prog W = .ok (.slice a3 (n - (j + 1)) (c - (j + 1))) W := hs3
          clear hs3
          go_wp2_with (at_builtin; refine wpList_append_tx rfl _ _ rfl w.heap.size _ (o ++ [x]) rfl HO4.out _ _ _ _ rfl HT4.out (by rw [List.length_append, HN.out]; simp only [List.length_singleton]; omega) HB4.out.size ?_)
          intro v5 W5 O5 g5
          have B5 := TRow.bel HB4.out HB4.out.size HO4.out (Nat.le_refl _) g5
          replace O5 : TRow W5 w.heap.size v5 (insS x l) := by rw [← HN2.out, List.append_assoc]; exact O5
          clear HO4 HB4 g5
          go_wp2
          go_ret
          exact ⟨v5, rfl, O5, B5⟩
        · have HN2 := Lib.hid (show (o ++ [x]) ++ l.drop j = insS x l from by rw [← HM.out, HD.out, insS_gt he ke, List.append_assoc]; rfl)
          have t1 := eq_bs (l.getD j []) x
          rw [decide_eq_false ke] at t1
          rw [decide_eq_false he] at HBL
          obtain ⟨a3, hs3, T3⟩ := HA.out.from_ (j) (by omega)
          have HT3 := Lib.hid T3
          clear ke he HM HD T3
          generalize bs (l.getD j []) = sy at *
          go_wp2_with fail
          refine (HBL.out _).mono ?_
          rintro e W2 ⟨rfl, hd⟩
          have O1 := HO.out.keep hd.bel
          have B1 := bel_gbn HB.out HB.out.size (hd.gb none)
          have B0 := (Below.refl W2.heap.size W2).alloc (Nat.le_refl _) (.cells #[.string (bs x)] 9)
          have HO2 := Lib.hid (O1.alloc (.cells #[.string (bs x)] 9))
          have HT2 := Lib.hid (TxAt.one W2 x)
          have HB2 := Lib.hid (B1.trans (B0.mono B1.size))
          clear B0
          have x1 : ∀ W3, Below w.heap.size w W3 → W3.cell? ⟨pb, po + j, none⟩ = some (.string sy) := fun W3 b3 => by rw [b3.cell hpw]; exact x00
          clear O1 B1 HO HB hd HBL
          obtain ⟨sx, hsx⟩ : ∃ sx, bs x = sx := ⟨_, rfl⟩
          rw [hsx] at HT2 HO2 HB2 t1 ⊢
          go_wp2_with (at_builtin; refine wpList_append_tx rfl _ _ rfl w.heap.size _ o rfl HO2.out _ 1 1 [x] rfl HT2.out (by rw [HN.out]; omega) HB2.out.size ?_)
          intro v3 W3 O3 g3
          have B3 := TRow.bel HB2.out HB2.out.size HO2.out (Nat.le_refl _) g3
          have y1 := x1 W3 B3
          have HT4 := Lib.hid (HT3.out.keep B3)
          have HO4 := Lib.hid O3
          have HB4 := Lib.hid B3
          clear HO2 HB2 HT2 g3 O3 B3 x1
          have hs4 := hs3
          clear hs3
          go_wp2_with (at_builtin; refine wpList_append_tx rfl _ _ rfl w.heap.size _ (o ++ [x]) rfl HO4.out _ _ _ _ rfl HT4.out (by rw [List.length_append, HN.out]; simp only [List.length_singleton]; omega) HB4.out.size ?_)
          intro v5 W5 O5 g5
          have B5 := TRow.bel HB4.out HB4.out.size HO4.out (Nat.le_refl _) g5
          replace O5 : TRow W5 w.heap.size v5 (insS x l) := by rw [← HN2.out, List.append_assoc]; exact O5
          clear HO4 HB4 g5
          go_wp2
          go_ret
          exact ⟨v5, rfl, O5, B5⟩
    · obtain rfl : j = n := by omega
      have HN2 := Lib.hid (show (o ++ [x]) ++ l.drop j = insS x l from by rw [← HM.out, List.drop_of_length_le (by rw [HL.out]; exact Nat.le_refl _)]; simp [insS])
      obtain ⟨a3, hs3, T3⟩ := HA.out.from_ j (Nat.le_refl _)
      obtain ⟨r0, hr0⟩ : ∃ r0, j - j = r0 := ⟨_, rfl⟩
      have HR0 := Lib.hid (show r0 ≤ 1 by omega)
      rw [hr0] at hs3 T3
      have HT3 := Lib.hid T3
      clear hr0
      have O1 := HO.out
      have B1 := HB.out
      clear HM T3
      have B0 := (Below.refl wr.heap.size wr).alloc (Nat.le_refl _) (.cells #[.string (bs x)] 9)
      have HO2 := Lib.hid (O1.alloc (.cells #[.string (bs x)] 9))
      have HT2 := Lib.hid (TxAt.one wr x)
      have HB2 := Lib.hid (B1.trans (B0.mono B1.size))
      clear B0
      clear O1 B1 HO HB
      obtain ⟨sx, hsx⟩ : ∃ sx, bs x = sx := ⟨_, rfl⟩
      rw [hsx] at HT2 HO2 HB2 ⊢
      go_wp2_with (at_builtin; refine wpList_append_tx rfl _ _ rfl w.heap.size _ o rfl HO2.out _ 1 1 [x] rfl HT2.out (by rw [HN.out]; omega) HB2.out.size ?_)
      intro v3 W3 O3 g3
      have B3 := TRow.bel HB2.out HB2.out.size HO2.out (Nat.le_refl _) g3
      have HT4 := Lib.hid (HT3.out.keep B3)
      have HO4 := Lib.hid O3
      have HB4 := Lib.hid B3
      clear HO2 HB2 HT2 g3 O3 B3
      go_wp2_with (at_builtin; refine wpList_append_tx rfl _ _ rfl w.heap.size _ (o ++ [x]) rfl HO4.out _ _ _ _ rfl HT4.out (by rw [List.length_append, HN.out]; simp only [List.length_singleton]; have := HR0.out; omega) HB4.out.size ?_)
      intro v5 W5 O5 g5
      have B5 := TRow.bel HB4.out HB4.out.size HO4.out (Nat.le_refl _) g5
      replace O5 : TRow W5 w.heap.size v5 (insS x l) := by rw [← HN2.out, List.append_assoc]; exact O5
      clear HO4 HB4 g5
      go_wp2
      go_ret
      exact ⟨v5, rfl, O5, B5⟩

end Go.Proofs.Ytpkbkemenfdadaa
