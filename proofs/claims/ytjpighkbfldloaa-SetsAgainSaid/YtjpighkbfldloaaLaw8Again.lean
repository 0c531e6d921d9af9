/-
  The statement 'SetsAgain' of layer 8: a sorted list is what is made of it; a text that is added twice is there once; one that is added, and taken out, leaves what was there without it; lists that are handed in stay as they were.
  No condition on the arguments.
-/
import Derived.Test.YtjpighkbfldloaaEKnown
import Derived.Test.YtjpighkbfldloaaEArgs
import Derived.Test.YtjpighkbfldloaaRows
import Derived.ChangeOld
namespace Go.Proofs.Ytjpighkbfldloaa
namespace setsAgain
open Go.ChangeShapes Go.WideShapes Go.ChangeAt Go.RowKit
open Go.ChangeMaps (open_string shut_string)
set_option linter.unusedVariables false
set_option linter.unusedSimpArgs false

theorem own : ownKnob Try.prog.godebug = none := by kernel_rfl


theorem add_twice (x : List Tx) (p : Tx) : orL (orL x [p]) [p] = orL x [p] := ss_ext (take_ss ..) (take_ss ..) (fun u => by rw [mem_or, mem_or, or_assoc, or_self_iff])
theorem add_del (x : List Tx) (p : Tx) : lessL (orL x [p]) [p] = lessL x [p] := ss_ext (take_ss ..) (take_ss ..) (fun u => by
  rw [mem_less, mem_or, mem_less]
  by_cases h : u ∈ [p] <;> simp [h])
theorem add_len {x : List Tx} {p : Tx} (h : p ∉ x) : (orL (canon x) [p]).length = (canon x).length + 1 := by
  have e1 : lessL (canon x) [p] = canon x := ss_ext (take_ss ..) (canon_ss x) (fun u => by
    rw [mem_less, mem_canon]
    constructor
    · exact fun k => k.1
    · exact fun k => ⟨k, fun e => h (by rw [List.mem_singleton] at e; rwa [← e])⟩)
  rw [or_len, e1]; rfl

set_option maxRecDepth 100000 in
set_option maxHeartbeats 16000000 in
theorem walk0 (s0 : Option Addr) (n0 c0 : Nat) (x : List Tx) (p : Tx) (w : World) (h0 : TxAt w s0 n0 c0 x ∧ Sh x) (hp : p.length ≤ 9223372036854775807) :
    Calls Try.prog 6 #[.slice s0 n0 c0, .string (bs p)] w fun e w' => e = .returned (.bool true) ∧ Below w.heap.size w w' := by
  have Tf0 := Lib.hid h0.1
  have S0 := Lib.hid h0.2
  clear h0
  obtain ⟨m, hm⟩ : ∃ m, (bs p).size = m := ⟨_, rfl⟩
  have HM := Lib.hid (show m = p.length from by rw [← hm, bs_size])
  have hm2 : m ≤ 9223372036854775807 := by rw [HM.out]; exact hp
  by_cases lx0 : lightL x
  · have LX0 := Lib.hid lx0
    clear lx0
    by_cases lp : m ≤ 100
    · have lz : ¬ (100 : Int) < (m : Int) := by omega
      by_cases kx : SS x
      · have KX := Lib.hid kx
        clear kx
        by_cases kp : p ∈ x
        · have KP := Lib.hid kp
          clear kp
          go_enter Try.func6, Try.ntmps6
          have B := Lib.hid (Below.refl w.heap.size w)
          go_wp2_with fail
          have C := light8_any s0 n0 c0 (x) w Tf0.out S0.out
          rw [decide_eq_true LX0.out] at C
          refine C.mono ?_
          clear C
          rintro e w' ⟨rfl, rfl⟩
          have B0 := (Below.refl w.heap.size w).alloc (Nat.le_refl _) (.cells #[] 9)
          have HO0 := Lib.hid (show TRow (w.alloc (.cells #[] 9)) w.heap.size (.slice (some ⟨w.heap.size, 0, none⟩) 0 0) [] from World.ownsRow_made w #[] 0 (Nat.le_refl _) (Nat.zero_le _) rfl)
          have TT := Lib.hid (Tf0.out.keep B0)
          have HB0 := Lib.hid B0
          have hb0 : n0 ≤ 40 := by rw [← Tf0.out.1]; exact LX0.out.1
          clear B0
          go_wp2_with (at_builtin; refine wpList_append_tx rfl _ _ rfl w.heap.size _ [] rfl HO0.out s0 n0 c0 x rfl TT.out (by simp; omega) HB0.out.size ?_)
          intro v1 W1 O1 g1
          have br := TRow.bel HB0.out HB0.out.size HO0.out (Nat.le_refl _) g1
          replace O1 : TRow W1 w.heap.size v1 x := O1
          obtain ⟨a_was, c_was, rfl, Twas⟩ := O1.shape
          replace Twas := Lib.hid Twas
          clear O1 g1 HO0 HB0 TT
          replace B := Lib.hid (B.out.trans (br.mono B.out.size))
          replace Tf0 := Lib.hid (Tf0.out.keep br)
          clear br
          generalize x.length = n_was at *
          go_wp2_with fail
          refine (of_any s0 n0 c0 (x) W1 Tf0.out (by have h0 := Tf0.out.1; have g0 : (x).length ≤ 40 := (LX0.out.1); omega)).mono ?_
          intro e W2 hm
          obtain ⟨a_q, c_q, rfl, Tq, br⟩ := hm.to
          clear hm
          replace Tq := Lib.hid Tq
          replace B := Lib.hid (B.out.trans (br.mono B.out.size))
          replace Tf0 := Lib.hid (Tf0.out.keep br)
          replace Twas := Lib.hid (Twas.out.keep br)
          clear br
          generalize (canon (x)).length = n_q at *
          go_wp2_with fail
          refine (add8_any a_q n_q c_q (canon (x)) p W2 Tq.out (by have h0 := Tq.out.1; have g0 : (canon (x)).length ≤ 40 := (Nat.le_trans (canon_len _) (LX0.out.1)); omega)).mono ?_
          intro e W3 hm
          obtain ⟨a_u, c_u, rfl, Tu, br⟩ := hm.to
          clear hm
          replace Tu := Lib.hid Tu
          replace B := Lib.hid (B.out.trans (br.mono B.out.size))
          replace Tf0 := Lib.hid (Tf0.out.keep br)
          replace Twas := Lib.hid (Twas.out.keep br)
          replace Tq := Lib.hid (Tq.out.keep br)
          clear br
          generalize (orL (canon (x)) [p]).length = n_u at *
          go_wp2_with fail
          have C := right8_any a_q n_q c_q (canon (x)) W3 Tq.out
          rw [decide_eq_true (show SS (canon (x)) from canon_ss _)] at C
          refine C.mono ?_
          clear C
          rintro e W4 ⟨rfl, hd⟩
          have br := hd.bel
          clear hd
          replace B := Lib.hid (B.out.trans (br.mono B.out.size))
          replace Tf0 := Lib.hid (Tf0.out.keep br)
          replace Twas := Lib.hid (Twas.out.keep br)
          replace Tq := Lib.hid (Tq.out.keep br)
          replace Tu := Lib.hid (Tu.out.keep br)
          clear br
          go_wp2_with fail
          refine (of_any a_q n_q c_q (canon (x)) W4 Tq.out (by have h0 := Tq.out.1; have g0 : (canon (x)).length ≤ 40 := (Nat.le_trans (canon_len _) (LX0.out.1)); omega)).mono ?_
          intro e W5 hm
          obtain ⟨a_v, c_v, rfl, Tv, br⟩ := hm.to
          clear hm
          replace Tv := Lib.hid Tv
          replace B := Lib.hid (B.out.trans (br.mono B.out.size))
          replace Tf0 := Lib.hid (Tf0.out.keep br)
          replace Twas := Lib.hid (Twas.out.keep br)
          replace Tq := Lib.hid (Tq.out.keep br)
          replace Tu := Lib.hid (Tu.out.keep br)
          clear br
          generalize (canon (canon (x))).length = n_v at *
          go_wp2_with fail
          have C := same8_any a_v n_v c_v (canon (canon (x))) a_q n_q c_q (canon (x)) W5 Tv.out Tq.out
          rw [decide_eq_true (show (canon (canon (x))) = (canon (x)) from canon_self (canon_ss _))] at C
          refine C.mono ?_
          clear C
          rintro e W6 ⟨rfl, hd⟩
          have br := hd.bel
          clear hd
          replace B := Lib.hid (B.out.trans (br.mono B.out.size))
          replace Tf0 := Lib.hid (Tf0.out.keep br)
          replace Twas := Lib.hid (Twas.out.keep br)
          replace Tq := Lib.hid (Tq.out.keep br)
          replace Tu := Lib.hid (Tu.out.keep br)
          replace Tv := Lib.hid (Tv.out.keep br)
          clear br
          clear Tv
          go_wp2_with fail
          have C := right8_any s0 n0 c0 (x) W6 Tf0.out
          rw [decide_eq_true KX.out] at C
          refine C.mono ?_
          clear C
          rintro e W7 ⟨rfl, hd⟩
          have br := hd.bel
          clear hd
          replace B := Lib.hid (B.out.trans (br.mono B.out.size))
          replace Tf0 := Lib.hid (Tf0.out.keep br)
          replace Twas := Lib.hid (Twas.out.keep br)
          replace Tq := Lib.hid (Tq.out.keep br)
          replace Tu := Lib.hid (Tu.out.keep br)
          clear br
          go_wp2_with fail
          have C := same8_any a_q n_q c_q (canon (x)) s0 n0 c0 (x) W7 Tq.out Tf0.out
          rw [decide_eq_true (show (canon (x)) = (x) from canon_self KX.out)] at C
          refine C.mono ?_
          clear C
          rintro e W8 ⟨rfl, hd⟩
          have br := hd.bel
          clear hd
          replace B := Lib.hid (B.out.trans (br.mono B.out.size))
          replace Tf0 := Lib.hid (Tf0.out.keep br)
          replace Twas := Lib.hid (Twas.out.keep br)
          replace Tq := Lib.hid (Tq.out.keep br)
          replace Tu := Lib.hid (Tu.out.keep br)
          clear br
          go_wp2_with fail
          refine (add8_any a_u n_u c_u (orL (canon (x)) [p]) p W8 Tu.out (by have h0 := Tu.out.1; have g0 : (orL (canon (x)) [p]).length ≤ 41 := (Nat.le_trans (take_len ..) (Nat.add_le_add (Nat.le_trans (canon_len _) (LX0.out.1)) (Nat.le_refl 1))); omega)).mono ?_
          intro e W9 hm
          obtain ⟨a_v2, c_v2, rfl, Tv2, br⟩ := hm.to
          clear hm
          replace Tv2 := Lib.hid Tv2
          replace B := Lib.hid (B.out.trans (br.mono B.out.size))
          replace Tf0 := Lib.hid (Tf0.out.keep br)
          replace Twas := Lib.hid (Twas.out.keep br)
          replace Tq := Lib.hid (Tq.out.keep br)
          replace Tu := Lib.hid (Tu.out.keep br)
          clear br
          generalize (orL (orL (canon (x)) [p]) [p]).length = n_v2 at *
          go_wp2_with fail
          have C := same8_any a_v2 n_v2 c_v2 (orL (orL (canon (x)) [p]) [p]) a_u n_u c_u (orL (canon (x)) [p]) W9 Tv2.out Tu.out
          rw [decide_eq_true (show (orL (orL (canon (x)) [p]) [p]) = (orL (canon (x)) [p]) from add_twice _ _)] at C
          refine C.mono ?_
          clear C
          rintro e W10 ⟨rfl, hd⟩
          have br := hd.bel
          clear hd
          replace B := Lib.hid (B.out.trans (br.mono B.out.size))
          replace Tf0 := Lib.hid (Tf0.out.keep br)
          replace Twas := Lib.hid (Twas.out.keep br)
          replace Tq := Lib.hid (Tq.out.keep br)
          replace Tu := Lib.hid (Tu.out.keep br)
          replace Tv2 := Lib.hid (Tv2.out.keep br)
          clear br
          clear Tv2
          go_wp2_with fail
          refine (del8_any a_u n_u c_u (orL (canon (x)) [p]) p W10 Tu.out (by have h0 := Tu.out.1; have g0 : (orL (canon (x)) [p]).length ≤ 41 := (Nat.le_trans (take_len ..) (Nat.add_le_add (Nat.le_trans (canon_len _) (LX0.out.1)) (Nat.le_refl 1))); omega)).mono ?_
          intro e W11 hm
          obtain ⟨a_v3, c_v3, rfl, Tv3, br⟩ := hm.to
          clear hm
          replace Tv3 := Lib.hid Tv3
          replace B := Lib.hid (B.out.trans (br.mono B.out.size))
          replace Tf0 := Lib.hid (Tf0.out.keep br)
          replace Twas := Lib.hid (Twas.out.keep br)
          replace Tq := Lib.hid (Tq.out.keep br)
          replace Tu := Lib.hid (Tu.out.keep br)
          clear br
          generalize (lessL (orL (canon (x)) [p]) [p]).length = n_v3 at *
          go_wp2_with fail
          refine (del8_any a_q n_q c_q (canon (x)) p W11 Tq.out (by have h0 := Tq.out.1; have g0 : (canon (x)).length ≤ 40 := (Nat.le_trans (canon_len _) (LX0.out.1)); omega)).mono ?_
          intro e W12 hm
          obtain ⟨a_v4, c_v4, rfl, Tv4, br⟩ := hm.to
          clear hm
          replace Tv4 := Lib.hid Tv4
          replace B := Lib.hid (B.out.trans (br.mono B.out.size))
          replace Tf0 := Lib.hid (Tf0.out.keep br)
          replace Twas := Lib.hid (Twas.out.keep br)
          replace Tq := Lib.hid (Tq.out.keep br)
          replace Tu := Lib.hid (Tu.out.keep br)
          replace Tv3 := Lib.hid (Tv3.out.keep br)
          clear br
          generalize (lessL (canon (x)) [p]).length = n_v4 at *
          go_wp2_with fail
          have C := same8_any a_v3 n_v3 c_v3 (lessL (orL (canon (x)) [p]) [p]) a_v4 n_v4 c_v4 (lessL (canon (x)) [p]) W12 Tv3.out Tv4.out
          rw [decide_eq_true (show (lessL (orL (canon (x)) [p]) [p]) = (lessL (canon (x)) [p]) from add_del _ _)] at C
          refine C.mono ?_
          clear C
          rintro e W13 ⟨rfl, hd⟩
          have br := hd.bel
          clear hd
          replace B := Lib.hid (B.out.trans (br.mono B.out.size))
          replace Tf0 := Lib.hid (Tf0.out.keep br)
          replace Twas := Lib.hid (Twas.out.keep br)
          replace Tq := Lib.hid (Tq.out.keep br)
          replace Tu := Lib.hid (Tu.out.keep br)
          replace Tv3 := Lib.hid (Tv3.out.keep br)
          replace Tv4 := Lib.hid (Tv4.out.keep br)
          clear br
          clear Tv3
          clear Tv4
          go_wp2_with fail
          have C := same8_any s0 n0 c0 (x) a_was n_was c_was (x) W13 Tf0.out Twas.out
          rw [decide_eq_true (show (x) = (x) from rfl)] at C
          refine C.mono ?_
          clear C
          rintro e W14 ⟨rfl, hd⟩
          have br := hd.bel
          clear hd
          replace B := Lib.hid (B.out.trans (br.mono B.out.size))
          replace Tf0 := Lib.hid (Tf0.out.keep br)
          replace Twas := Lib.hid (Twas.out.keep br)
          replace Tq := Lib.hid (Tq.out.keep br)
          replace Tu := Lib.hid (Tu.out.keep br)
          clear br
          go_wp2_with fail
          have C := has8_any s0 n0 c0 (x) p W14 Tf0.out
          rw [decide_eq_true KP.out] at C
          refine C.mono ?_
          clear C
          rintro e w' ⟨rfl, rfl⟩
          go_wp2_with fail
          refine (eknown_any _).mono ?_
          rintro e W15 ⟨rfl, br⟩
          replace B := Lib.hid (B.out.trans (br.mono B.out.size))
          clear br
          go_wp2
          go_ret
          exact ⟨rfl, B.out⟩

        · have KP := Lib.hid kp
          clear kp
          go_enter Try.func6, Try.ntmps6
          have B := Lib.hid (Below.refl w.heap.size w)
          go_wp2_with fail
          have C := light8_any s0 n0 c0 (x) w Tf0.out S0.out
          rw [decide_eq_true LX0.out] at C
          refine C.mono ?_
          clear C
          rintro e w' ⟨rfl, rfl⟩
          have B0 := (Below.refl w.heap.size w).alloc (Nat.le_refl _) (.cells #[] 9)
          have HO0 := Lib.hid (show TRow (w.alloc (.cells #[] 9)) w.heap.size (.slice (some ⟨w.heap.size, 0, none⟩) 0 0) [] from World.ownsRow_made w #[] 0 (Nat.le_refl _) (Nat.zero_le _) rfl)
          have TT := Lib.hid (Tf0.out.keep B0)
          have HB0 := Lib.hid B0
          have hb0 : n0 ≤ 40 := by rw [← Tf0.out.1]; exact LX0.out.1
          clear B0
          go_wp2_with (at_builtin; refine wpList_append_tx rfl _ _ rfl w.heap.size _ [] rfl HO0.out s0 n0 c0 x rfl TT.out (by simp; omega) HB0.out.size ?_)
          intro v1 W1 O1 g1
          have br := TRow.bel HB0.out HB0.out.size HO0.out (Nat.le_refl _) g1
          replace O1 : TRow W1 w.heap.size v1 x := O1
          obtain ⟨a_was, c_was, rfl, Twas⟩ := O1.shape
          replace Twas := Lib.hid Twas
          clear O1 g1 HO0 HB0 TT
          replace B := Lib.hid (B.out.trans (br.mono B.out.size))
          replace Tf0 := Lib.hid (Tf0.out.keep br)
          clear br
          generalize x.length = n_was at *
          go_wp2_with fail
          refine (of_any s0 n0 c0 (x) W1 Tf0.out (by have h0 := Tf0.out.1; have g0 : (x).length ≤ 40 := (LX0.out.1); omega)).mono ?_
          intro e W2 hm
          obtain ⟨a_q, c_q, rfl, Tq, br⟩ := hm.to
          clear hm
          replace Tq := Lib.hid Tq
          replace B := Lib.hid (B.out.trans (br.mono B.out.size))
          replace Tf0 := Lib.hid (Tf0.out.keep br)
          replace Twas := Lib.hid (Twas.out.keep br)
          clear br
          generalize (canon (x)).length = n_q at *
          go_wp2_with fail
          refine (add8_any a_q n_q c_q (canon (x)) p W2 Tq.out (by have h0 := Tq.out.1; have g0 : (canon (x)).length ≤ 40 := (Nat.le_trans (canon_len _) (LX0.out.1)); omega)).mono ?_
          intro e W3 hm
          obtain ⟨a_u, c_u, rfl, Tu, br⟩ := hm.to
          clear hm
          replace Tu := Lib.hid Tu
          replace B := Lib.hid (B.out.trans (br.mono B.out.size))
          replace Tf0 := Lib.hid (Tf0.out.keep br)
          replace Twas := Lib.hid (Twas.out.keep br)
          replace Tq := Lib.hid (Tq.out.keep br)
          clear br
          generalize (orL (canon (x)) [p]).length = n_u at *
          go_wp2_with fail
          have C := right8_any a_q n_q c_q (canon (x)) W3 Tq.out
          rw [decide_eq_true (show SS (canon (x)) from canon_ss _)] at C
          refine C.mono ?_
          clear C
          rintro e W4 ⟨rfl, hd⟩
          have br := hd.bel
          clear hd
          replace B := Lib.hid (B.out.trans (br.mono B.out.size))
          replace Tf0 := Lib.hid (Tf0.out.keep br)
          replace Twas := Lib.hid (Twas.out.keep br)
          replace Tq := Lib.hid (Tq.out.keep br)
          replace Tu := Lib.hid (Tu.out.keep br)
          clear br
          go_wp2_with fail
          refine (of_any a_q n_q c_q (canon (x)) W4 Tq.out (by have h0 := Tq.out.1; have g0 : (canon (x)).length ≤ 40 := (Nat.le_trans (canon_len _) (LX0.out.1)); omega)).mono ?_
          intro e W5 hm
          obtain ⟨a_v, c_v, rfl, Tv, br⟩ := hm.to
          clear hm
          replace Tv := Lib.hid Tv
          replace B := Lib.hid (B.out.trans (br.mono B.out.size))
          replace Tf0 := Lib.hid (Tf0.out.keep br)
          replace Twas := Lib.hid (Twas.out.keep br)
          replace Tq := Lib.hid (Tq.out.keep br)
          replace Tu := Lib.hid (Tu.out.keep br)
          clear br
          generalize (canon (canon (x))).length = n_v at *
          go_wp2_with fail
          have C := same8_any a_v n_v c_v (canon (canon (x))) a_q n_q c_q (canon (x)) W5 Tv.out Tq.out
          rw [decide_eq_true (show (canon (canon (x))) = (canon (x)) from canon_self (canon_ss _))] at C
          refine C.mono ?_
          clear C
          rintro e W6 ⟨rfl, hd⟩
          have br := hd.bel
          clear hd
          replace B := Lib.hid (B.out.trans (br.mono B.out.size))
          replace Tf0 := Lib.hid (Tf0.out.keep br)
          replace Twas := Lib.hid (Twas.out.keep br)
          replace Tq := Lib.hid (Tq.out.keep br)
          replace Tu := Lib.hid (Tu.out.keep br)
          replace Tv := Lib.hid (Tv.out.keep br)
          clear br
          clear Tv
          go_wp2_with fail
          have C := right8_any s0 n0 c0 (x) W6 Tf0.out
          rw [decide_eq_true KX.out] at C
          refine C.mono ?_
          clear C
          rintro e W7 ⟨rfl, hd⟩
          have br := hd.bel
          clear hd
          replace B := Lib.hid (B.out.trans (br.mono B.out.size))
          replace Tf0 := Lib.hid (Tf0.out.keep br)
          replace Twas := Lib.hid (Twas.out.keep br)
          replace Tq := Lib.hid (Tq.out.keep br)
          replace Tu := Lib.hid (Tu.out.keep br)
          clear br
          go_wp2_with fail
          have C := same8_any a_q n_q c_q (canon (x)) s0 n0 c0 (x) W7 Tq.out Tf0.out
          rw [decide_eq_true (show (canon (x)) = (x) from canon_self KX.out)] at C
          refine C.mono ?_
          clear C
          rintro e W8 ⟨rfl, hd⟩
          have br := hd.bel
          clear hd
          replace B := Lib.hid (B.out.trans (br.mono B.out.size))
          replace Tf0 := Lib.hid (Tf0.out.keep br)
          replace Twas := Lib.hid (Twas.out.keep br)
          replace Tq := Lib.hid (Tq.out.keep br)
          replace Tu := Lib.hid (Tu.out.keep br)
          clear br
          go_wp2_with fail
          refine (add8_any a_u n_u c_u (orL (canon (x)) [p]) p W8 Tu.out (by have h0 := Tu.out.1; have g0 : (orL (canon (x)) [p]).length ≤ 41 := (Nat.le_trans (take_len ..) (Nat.add_le_add (Nat.le_trans (canon_len _) (LX0.out.1)) (Nat.le_refl 1))); omega)).mono ?_
          intro e W9 hm
          obtain ⟨a_v2, c_v2, rfl, Tv2, br⟩ := hm.to
          clear hm
          replace Tv2 := Lib.hid Tv2
          replace B := Lib.hid (B.out.trans (br.mono B.out.size))
          replace Tf0 := Lib.hid (Tf0.out.keep br)
          replace Twas := Lib.hid (Twas.out.keep br)
          replace Tq := Lib.hid (Tq.out.keep br)
          replace Tu := Lib.hid (Tu.out.keep br)
          clear br
          generalize (orL (orL (canon (x)) [p]) [p]).length = n_v2 at *
          go_wp2_with fail
          have C := same8_any a_v2 n_v2 c_v2 (orL (orL (canon (x)) [p]) [p]) a_u n_u c_u (orL (canon (x)) [p]) W9 Tv2.out Tu.out
          rw [decide_eq_true (show (orL (orL (canon (x)) [p]) [p]) = (orL (canon (x)) [p]) from add_twice _ _)] at C
          refine C.mono ?_
          clear C
          rintro e W10 ⟨rfl, hd⟩
          have br := hd.bel
          clear hd
          replace B := Lib.hid (B.out.trans (br.mono B.out.size))
          replace Tf0 := Lib.hid (Tf0.out.keep br)
          replace Twas := Lib.hid (Twas.out.keep br)
          replace Tq := Lib.hid (Tq.out.keep br)
          replace Tu := Lib.hid (Tu.out.keep br)
          replace Tv2 := Lib.hid (Tv2.out.keep br)
          clear br
          clear Tv2
          go_wp2_with fail
          refine (del8_any a_u n_u c_u (orL (canon (x)) [p]) p W10 Tu.out (by have h0 := Tu.out.1; have g0 : (orL (canon (x)) [p]).length ≤ 41 := (Nat.le_trans (take_len ..) (Nat.add_le_add (Nat.le_trans (canon_len _) (LX0.out.1)) (Nat.le_refl 1))); omega)).mono ?_
          intro e W11 hm
          obtain ⟨a_v3, c_v3, rfl, Tv3, br⟩ := hm.to
          clear hm
          replace Tv3 := Lib.hid Tv3
          replace B := Lib.hid (B.out.trans (br.mono B.out.size))
          replace Tf0 := Lib.hid (Tf0.out.keep br)
          replace Twas := Lib.hid (Twas.out.keep br)
          replace Tq := Lib.hid (Tq.out.keep br)
          replace Tu := Lib.hid (Tu.out.keep br)
          clear br
          generalize (lessL (orL (canon (x)) [p]) [p]).length = n_v3 at *
          go_wp2_with fail
          refine (del8_any a_q n_q c_q (canon (x)) p W11 Tq.out (by have h0 := Tq.out.1; have g0 : (canon (x)).length ≤ 40 := (Nat.le_trans (canon_len _) (LX0.out.1)); omega)).mono ?_
          intro e W12 hm
          obtain ⟨a_v4, c_v4, rfl, Tv4, br⟩ := hm.to
          clear hm
          replace Tv4 := Lib.hid Tv4
          replace B := Lib.hid (B.out.trans (br.mono B.out.size))
          replace Tf0 := Lib.hid (Tf0.out.keep br)
          replace Twas := Lib.hid (Twas.out.keep br)
          replace Tq := Lib.hid (Tq.out.keep br)
          replace Tu := Lib.hid (Tu.out.keep br)
          replace Tv3 := Lib.hid (Tv3.out.keep br)
          clear br
          generalize (lessL (canon (x)) [p]).length = n_v4 at *
          go_wp2_with fail
          have C := same8_any a_v3 n_v3 c_v3 (lessL (orL (canon (x)) [p]) [p]) a_v4 n_v4 c_v4 (lessL (canon (x)) [p]) W12 Tv3.out Tv4.out
          rw [decide_eq_true (show (lessL (orL (canon (x)) [p]) [p]) = (lessL (canon (x)) [p]) from add_del _ _)] at C
          refine C.mono ?_
          clear C
          rintro e W13 ⟨rfl, hd⟩
          have br := hd.bel
          clear hd
          replace B := Lib.hid (B.out.trans (br.mono B.out.size))
          replace Tf0 := Lib.hid (Tf0.out.keep br)
          replace Twas := Lib.hid (Twas.out.keep br)
          replace Tq := Lib.hid (Tq.out.keep br)
          replace Tu := Lib.hid (Tu.out.keep br)
          replace Tv3 := Lib.hid (Tv3.out.keep br)
          replace Tv4 := Lib.hid (Tv4.out.keep br)
          clear br
          clear Tv3
          clear Tv4
          go_wp2_with fail
          have C := same8_any s0 n0 c0 (x) a_was n_was c_was (x) W13 Tf0.out Twas.out
          rw [decide_eq_true (show (x) = (x) from rfl)] at C
          refine C.mono ?_
          clear C
          rintro e W14 ⟨rfl, hd⟩
          have br := hd.bel
          clear hd
          replace B := Lib.hid (B.out.trans (br.mono B.out.size))
          replace Tf0 := Lib.hid (Tf0.out.keep br)
          replace Twas := Lib.hid (Twas.out.keep br)
          replace Tq := Lib.hid (Tq.out.keep br)
          replace Tu := Lib.hid (Tu.out.keep br)
          clear br
          go_wp2_with fail
          have hq : n_q ≤ 40 := by rw [← Tq.out.1]; exact Nat.le_trans (canon_len _) (LX0.out.1)
          have e1 : n_u = n_q + 1 := by rw [← Tu.out.1, ← Tq.out.1]; exact add_len KP.out
          have tz : ((n_u : Int) == (n_q : Int) + 1) = true := by rw [e1]; simp
          clear e1
          have C := has8_any s0 n0 c0 (x) p W14 Tf0.out
          rw [decide_eq_false KP.out] at C
          refine C.mono ?_
          clear C
          rintro e w' ⟨rfl, rfl⟩
          go_wp2_with fail
          refine (eknown_any _).mono ?_
          rintro e W15 ⟨rfl, br⟩
          replace B := Lib.hid (B.out.trans (br.mono B.out.size))
          clear br
          go_wp2
          go_ret
          exact ⟨rfl, B.out⟩

      · have KX := Lib.hid kx
        clear kx
        by_cases kp : p ∈ x
        · have KP := Lib.hid kp
          clear kp
          go_enter Try.func6, Try.ntmps6
          have B := Lib.hid (Below.refl w.heap.size w)
          go_wp2_with fail
          have C := light8_any s0 n0 c0 (x) w Tf0.out S0.out
          rw [decide_eq_true LX0.out] at C
          refine C.mono ?_
          clear C
          rintro e w' ⟨rfl, rfl⟩
          have B0 := (Below.refl w.heap.size w).alloc (Nat.le_refl _) (.cells #[] 9)
          have HO0 := Lib.hid (show TRow (w.alloc (.cells #[] 9)) w.heap.size (.slice (some ⟨w.heap.size, 0, none⟩) 0 0) [] from World.ownsRow_made w #[] 0 (Nat.le_refl _) (Nat.zero_le _) rfl)
          have TT := Lib.hid (Tf0.out.keep B0)
          have HB0 := Lib.hid B0
          have hb0 : n0 ≤ 40 := by rw [← Tf0.out.1]; exact LX0.out.1
          clear B0
          go_wp2_with (at_builtin; refine wpList_append_tx rfl _ _ rfl w.heap.size _ [] rfl HO0.out s0 n0 c0 x rfl TT.out (by simp; omega) HB0.out.size ?_)
          intro v1 W1 O1 g1
          have br := TRow.bel HB0.out HB0.out.size HO0.out (Nat.le_refl _) g1
          replace O1 : TRow W1 w.heap.size v1 x := O1
          obtain ⟨a_was, c_was, rfl, Twas⟩ := O1.shape
          replace Twas := Lib.hid Twas
          clear O1 g1 HO0 HB0 TT
          replace B := Lib.hid (B.out.trans (br.mono B.out.size))
          replace Tf0 := Lib.hid (Tf0.out.keep br)
          clear br
          generalize x.length = n_was at *
          go_wp2_with fail
          refine (of_any s0 n0 c0 (x) W1 Tf0.out (by have h0 := Tf0.out.1; have g0 : (x).length ≤ 40 := (LX0.out.1); omega)).mono ?_
          intro e W2 hm
          obtain ⟨a_q, c_q, rfl, Tq, br⟩ := hm.to
          clear hm
          replace Tq := Lib.hid Tq
          replace B := Lib.hid (B.out.trans (br.mono B.out.size))
          replace Tf0 := Lib.hid (Tf0.out.keep br)
          replace Twas := Lib.hid (Twas.out.keep br)
          clear br
          generalize (canon (x)).length = n_q at *
          go_wp2_with fail
          refine (add8_any a_q n_q c_q (canon (x)) p W2 Tq.out (by have h0 := Tq.out.1; have g0 : (canon (x)).length ≤ 40 := (Nat.le_trans (canon_len _) (LX0.out.1)); omega)).mono ?_
          intro e W3 hm
          obtain ⟨a_u, c_u, rfl, Tu, br⟩ := hm.to
          clear hm
          replace Tu := Lib.hid Tu
          replace B := Lib.hid (B.out.trans (br.mono B.out.size))
          replace Tf0 := Lib.hid (Tf0.out.keep br)
          replace Twas := Lib.hid (Twas.out.keep br)
          replace Tq := Lib.hid (Tq.out.keep br)
          clear br
          generalize (orL (canon (x)) [p]).length = n_u at *
          go_wp2_with fail
          have C := right8_any a_q n_q c_q (canon (x)) W3 Tq.out
          rw [decide_eq_true (show SS (canon (x)) from canon_ss _)] at C
          refine C.mono ?_
          clear C
          rintro e W4 ⟨rfl, hd⟩
          have br := hd.bel
          clear hd
          replace B := Lib.hid (B.out.trans (br.mono B.out.size))
          replace Tf0 := Lib.hid (Tf0.out.keep br)
          replace Twas := Lib.hid (Twas.out.keep br)
          replace Tq := Lib.hid (Tq.out.keep br)
          replace Tu := Lib.hid (Tu.out.keep br)
          clear br
          go_wp2_with fail
          refine (of_any a_q n_q c_q (canon (x)) W4 Tq.out (by have h0 := Tq.out.1; have g0 : (canon (x)).length ≤ 40 := (Nat.le_trans (canon_len _) (LX0.out.1)); omega)).mono ?_
          intro e W5 hm
          obtain ⟨a_v, c_v, rfl, Tv, br⟩ := hm.to
          clear hm
          replace Tv := Lib.hid Tv
          replace B := Lib.hid (B.out.trans (br.mono B.out.size))
          replace Tf0 := Lib.hid (Tf0.out.keep br)
          replace Twas := Lib.hid (Twas.out.keep br)
          replace Tq := Lib.hid (Tq.out.keep br)
          replace Tu := Lib.hid (Tu.out.keep br)
          clear br
          generalize (canon (canon (x))).length = n_v at *
          go_wp2_with fail
          have C := same8_any a_v n_v c_v (canon (canon (x))) a_q n_q c_q (canon (x)) W5 Tv.out Tq.out
          rw [decide_eq_true (show (canon (canon (x))) = (canon (x)) from canon_self (canon_ss _))] at C
          refine C.mono ?_
          clear C
          rintro e W6 ⟨rfl, hd⟩
          have br := hd.bel
          clear hd
          replace B := Lib.hid (B.out.trans (br.mono B.out.size))
          replace Tf0 := Lib.hid (Tf0.out.keep br)
          replace Twas := Lib.hid (Twas.out.keep br)
          replace Tq := Lib.hid (Tq.out.keep br)
          replace Tu := Lib.hid (Tu.out.keep br)
          replace Tv := Lib.hid (Tv.out.keep br)
          clear br
          clear Tv
          go_wp2_with fail
          have C := right8_any s0 n0 c0 (x) W6 Tf0.out
          rw [decide_eq_false KX.out] at C
          refine C.mono ?_
          clear C
          rintro e W7 ⟨rfl, hd⟩
          have br := hd.bel
          clear hd
          replace B := Lib.hid (B.out.trans (br.mono B.out.size))
          replace Tf0 := Lib.hid (Tf0.out.keep br)
          replace Twas := Lib.hid (Twas.out.keep br)
          replace Tq := Lib.hid (Tq.out.keep br)
          replace Tu := Lib.hid (Tu.out.keep br)
          clear br
          go_wp2_with fail
          have C := same8_any a_q n_q c_q (canon (x)) s0 n0 c0 (x) W7 Tq.out Tf0.out
          rw [decide_eq_false (show ¬ canon (x) = (x) from fun h => KX.out (canon_iff.2 h))] at C
          refine C.mono ?_
          clear C
          rintro e W8 ⟨rfl, hd⟩
          have br := hd.bel
          clear hd
          replace B := Lib.hid (B.out.trans (br.mono B.out.size))
          replace Tf0 := Lib.hid (Tf0.out.keep br)
          replace Twas := Lib.hid (Twas.out.keep br)
          replace Tq := Lib.hid (Tq.out.keep br)
          replace Tu := Lib.hid (Tu.out.keep br)
          clear br
          go_wp2_with fail
          refine (add8_any a_u n_u c_u (orL (canon (x)) [p]) p W8 Tu.out (by have h0 := Tu.out.1; have g0 : (orL (canon (x)) [p]).length ≤ 41 := (Nat.le_trans (take_len ..) (Nat.add_le_add (Nat.le_trans (canon_len _) (LX0.out.1)) (Nat.le_refl 1))); omega)).mono ?_
          intro e W9 hm
          obtain ⟨a_v2, c_v2, rfl, Tv2, br⟩ := hm.to
          clear hm
          replace Tv2 := Lib.hid Tv2
          replace B := Lib.hid (B.out.trans (br.mono B.out.size))
          replace Tf0 := Lib.hid (Tf0.out.keep br)
          replace Twas := Lib.hid (Twas.out.keep br)
          replace Tq := Lib.hid (Tq.out.keep br)
          replace Tu := Lib.hid (Tu.out.keep br)
          clear br
          generalize (orL (orL (canon (x)) [p]) [p]).length = n_v2 at *
          go_wp2_with fail
          have C := same8_any a_v2 n_v2 c_v2 (orL (orL (canon (x)) [p]) [p]) a_u n_u c_u (orL (canon (x)) [p]) W9 Tv2.out Tu.out
          rw [decide_eq_true (show (orL (orL (canon (x)) [p]) [p]) = (orL (canon (x)) [p]) from add_twice _ _)] at C
          refine C.mono ?_
          clear C
          rintro e W10 ⟨rfl, hd⟩
          have br := hd.bel
          clear hd
          replace B := Lib.hid (B.out.trans (br.mono B.out.size))
          replace Tf0 := Lib.hid (Tf0.out.keep br)
          replace Twas := Lib.hid (Twas.out.keep br)
          replace Tq := Lib.hid (Tq.out.keep br)
          replace Tu := Lib.hid (Tu.out.keep br)
          replace Tv2 := Lib.hid (Tv2.out.keep br)
          clear br
          clear Tv2
          go_wp2_with fail
          refine (del8_any a_u n_u c_u (orL (canon (x)) [p]) p W10 Tu.out (by have h0 := Tu.out.1; have g0 : (orL (canon (x)) [p]).length ≤ 41 := (Nat.le_trans (take_len ..) (Nat.add_le_add (Nat.le_trans (canon_len _) (LX0.out.1)) (Nat.le_refl 1))); omega)).mono ?_
          intro e W11 hm
          obtain ⟨a_v3, c_v3, rfl, Tv3, br⟩ := hm.to
          clear hm
          replace Tv3 := Lib.hid Tv3
          replace B := Lib.hid (B.out.trans (br.mono B.out.size))
          replace Tf0 := Lib.hid (Tf0.out.keep br)
          replace Twas := Lib.hid (Twas.out.keep br)
          replace Tq := Lib.hid (Tq.out.keep br)
          replace Tu := Lib.hid (Tu.out.keep br)
          clear br
          generalize (lessL (orL (canon (x)) [p]) [p]).length = n_v3 at *
          go_wp2_with fail
          refine (del8_any a_q n_q c_q (canon (x)) p W11 Tq.out (by have h0 := Tq.out.1; have g0 : (canon (x)).length ≤ 40 := (Nat.le_trans (canon_len _) (LX0.out.1)); omega)).mono ?_
          intro e W12 hm
          obtain ⟨a_v4, c_v4, rfl, Tv4, br⟩ := hm.to
          clear hm
          replace Tv4 := Lib.hid Tv4
          replace B := Lib.hid (B.out.trans (br.mono B.out.size))
          replace Tf0 := Lib.hid (Tf0.out.keep br)
          replace Twas := Lib.hid (Twas.out.keep br)
          replace Tq := Lib.hid (Tq.out.keep br)
          replace Tu := Lib.hid (Tu.out.keep br)
          replace Tv3 := Lib.hid (Tv3.out.keep br)
          clear br
          generalize (lessL (canon (x)) [p]).length = n_v4 at *
          go_wp2_with fail
          have C := same8_any a_v3 n_v3 c_v3 (lessL (orL (canon (x)) [p]) [p]) a_v4 n_v4 c_v4 (lessL (canon (x)) [p]) W12 Tv3.out Tv4.out
          rw [decide_eq_true (show (lessL (orL (canon (x)) [p]) [p]) = (lessL (canon (x)) [p]) from add_del _ _)] at C
          refine C.mono ?_
          clear C
          rintro e W13 ⟨rfl, hd⟩
          have br := hd.bel
          clear hd
          replace B := Lib.hid (B.out.trans (br.mono B.out.size))
          replace Tf0 := Lib.hid (Tf0.out.keep br)
          replace Twas := Lib.hid (Twas.out.keep br)
          replace Tq := Lib.hid (Tq.out.keep br)
          replace Tu := Lib.hid (Tu.out.keep br)
          replace Tv3 := Lib.hid (Tv3.out.keep br)
          replace Tv4 := Lib.hid (Tv4.out.keep br)
          clear br
          clear Tv3
          clear Tv4
          go_wp2_with fail
          have C := same8_any s0 n0 c0 (x) a_was n_was c_was (x) W13 Tf0.out Twas.out
          rw [decide_eq_true (show (x) = (x) from rfl)] at C
          refine C.mono ?_
          clear C
          rintro e W14 ⟨rfl, hd⟩
          have br := hd.bel
          clear hd
          replace B := Lib.hid (B.out.trans (br.mono B.out.size))
          replace Tf0 := Lib.hid (Tf0.out.keep br)
          replace Twas := Lib.hid (Twas.out.keep br)
          replace Tq := Lib.hid (Tq.out.keep br)
          replace Tu := Lib.hid (Tu.out.keep br)
          clear br
          go_wp2_with fail
          have C := has8_any s0 n0 c0 (x) p W14 Tf0.out
          rw [decide_eq_true KP.out] at C
          refine C.mono ?_
          clear C
          rintro e w' ⟨rfl, rfl⟩
          go_wp2_with fail
          refine (eknown_any _).mono ?_
          rintro e W15 ⟨rfl, br⟩
          replace B := Lib.hid (B.out.trans (br.mono B.out.size))
          clear br
          go_wp2
          go_ret
          exact ⟨rfl, B.out⟩

        · have KP := Lib.hid kp
          clear kp
          go_enter Try.func6, Try.ntmps6
          have B := Lib.hid (Below.refl w.heap.size w)
          go_wp2_with fail
          have C := light8_any s0 n0 c0 (x) w Tf0.out S0.out
          rw [decide_eq_true LX0.out] at C
          refine C.mono ?_
          clear C
          rintro e w' ⟨rfl, rfl⟩
          have B0 := (Below.refl w.heap.size w).alloc (Nat.le_refl _) (.cells #[] 9)
          have HO0 := Lib.hid (show TRow (w.alloc (.cells #[] 9)) w.heap.size (.slice (some ⟨w.heap.size, 0, none⟩) 0 0) [] from World.ownsRow_made w #[] 0 (Nat.le_refl _) (Nat.zero_le _) rfl)
          have TT := Lib.hid (Tf0.out.keep B0)
          have HB0 := Lib.hid B0
          have hb0 : n0 ≤ 40 := by rw [← Tf0.out.1]; exact LX0.out.1
          clear B0
          go_wp2_with (at_builtin; refine wpList_append_tx rfl _ _ rfl w.heap.size _ [] rfl HO0.out s0 n0 c0 x rfl TT.out (by simp; omega) HB0.out.size ?_)
          intro v1 W1 O1 g1
          have br := TRow.bel HB0.out HB0.out.size HO0.out (Nat.le_refl _) g1
          replace O1 : TRow W1 w.heap.size v1 x := O1
          obtain ⟨a_was, c_was, rfl, Twas⟩ := O1.shape
          replace Twas := Lib.hid Twas
          clear O1 g1 HO0 HB0 TT
          replace B := Lib.hid (B.out.trans (br.mono B.out.size))
          replace Tf0 := Lib.hid (Tf0.out.keep br)
          clear br
          generalize x.length = n_was at *
          go_wp2_with fail
          refine (of_any s0 n0 c0 (x) W1 Tf0.out (by have h0 := Tf0.out.1; have g0 : (x).length ≤ 40 := (LX0.out.1); omega)).mono ?_
          intro e W2 hm
          obtain ⟨a_q, c_q, rfl, Tq, br⟩ := hm.to
          clear hm
          replace Tq := Lib.hid Tq
          replace B := Lib.hid (B.out.trans (br.mono B.out.size))
          replace Tf0 := Lib.hid (Tf0.out.keep br)
          replace Twas := Lib.hid (Twas.out.keep br)
          clear br
          generalize (canon (x)).length = n_q at *
          go_wp2_with fail
          refine (add8_any a_q n_q c_q (canon (x)) p W2 Tq.out (by have h0 := Tq.out.1; have g0 : (canon (x)).length ≤ 40 := (Nat.le_trans (canon_len _) (LX0.out.1)); omega)).mono ?_
          intro e W3 hm
          obtain ⟨a_u, c_u, rfl, Tu, br⟩ := hm.to
          clear hm
          replace Tu := Lib.hid Tu
          replace B := Lib.hid (B.out.trans (br.mono B.out.size))
          replace Tf0 := Lib.hid (Tf0.out.keep br)
          replace Twas := Lib.hid (Twas.out.keep br)
          replace Tq := Lib.hid (Tq.out.keep br)
          clear br
          generalize (orL (canon (x)) [p]).length = n_u at *
          go_wp2_with fail
          have C := right8_any a_q n_q c_q (canon (x)) W3 Tq.out
          rw [decide_eq_true (show SS (canon (x)) from canon_ss _)] at C
          refine C.mono ?_
          clear C
          rintro e W4 ⟨rfl, hd⟩
          have br := hd.bel
          clear hd
          replace B := Lib.hid (B.out.trans (br.mono B.out.size))
          replace Tf0 := Lib.hid (Tf0.out.keep br)
          replace Twas := Lib.hid (Twas.out.keep br)
          replace Tq := Lib.hid (Tq.out.keep br)
          replace Tu := Lib.hid (Tu.out.keep br)
          clear br
          go_wp2_with fail
          refine (of_any a_q n_q c_q (canon (x)) W4 Tq.out (by have h0 := Tq.out.1; have g0 : (canon (x)).length ≤ 40 := (Nat.le_trans (canon_len _) (LX0.out.1)); omega)).mono ?_
          intro e W5 hm
          obtain ⟨a_v, c_v, rfl, Tv, br⟩ := hm.to
          clear hm
          replace Tv := Lib.hid Tv
          replace B := Lib.hid (B.out.trans (br.mono B.out.size))
          replace Tf0 := Lib.hid (Tf0.out.keep br)
          replace Twas := Lib.hid (Twas.out.keep br)
          replace Tq := Lib.hid (Tq.out.keep br)
          replace Tu := Lib.hid (Tu.out.keep br)
          clear br
          generalize (canon (canon (x))).length = n_v at *
          go_wp2_with fail
          have C := same8_any a_v n_v c_v (canon (canon (x))) a_q n_q c_q (canon (x)) W5 Tv.out Tq.out
          rw [decide_eq_true (show (canon (canon (x))) = (canon (x)) from canon_self (canon_ss _))] at C
          refine C.mono ?_
          clear C
          rintro e W6 ⟨rfl, hd⟩
          have br := hd.bel
          clear hd
          replace B := Lib.hid (B.out.trans (br.mono B.out.size))
          replace Tf0 := Lib.hid (Tf0.out.keep br)
          replace Twas := Lib.hid (Twas.out.keep br)
          replace Tq := Lib.hid (Tq.out.keep br)
          replace Tu := Lib.hid (Tu.out.keep br)
          replace Tv := Lib.hid (Tv.out.keep br)
          clear br
          clear Tv
          go_wp2_with fail
          have C := right8_any s0 n0 c0 (x) W6 Tf0.out
          rw [decide_eq_false KX.out] at C
          refine C.mono ?_
          clear C
          rintro e W7 ⟨rfl, hd⟩
          have br := hd.bel
          clear hd
          replace B := Lib.hid (B.out.trans (br.mono B.out.size))
          replace Tf0 := Lib.hid (Tf0.out.keep br)
          replace Twas := Lib.hid (Twas.out.keep br)
          replace Tq := Lib.hid (Tq.out.keep br)
          replace Tu := Lib.hid (Tu.out.keep br)
          clear br
          go_wp2_with fail
          have C := same8_any a_q n_q c_q (canon (x)) s0 n0 c0 (x) W7 Tq.out Tf0.out
          rw [decide_eq_false (show ¬ canon (x) = (x) from fun h => KX.out (canon_iff.2 h))] at C
          refine C.mono ?_
          clear C
          rintro e W8 ⟨rfl, hd⟩
          have br := hd.bel
          clear hd
          replace B := Lib.hid (B.out.trans (br.mono B.out.size))
          replace Tf0 := Lib.hid (Tf0.out.keep br)
          replace Twas := Lib.hid (Twas.out.keep br)
          replace Tq := Lib.hid (Tq.out.keep br)
          replace Tu := Lib.hid (Tu.out.keep br)
          clear br
          go_wp2_with fail
          refine (add8_any a_u n_u c_u (orL (canon (x)) [p]) p W8 Tu.out (by have h0 := Tu.out.1; have g0 : (orL (canon (x)) [p]).length ≤ 41 := (Nat.le_trans (take_len ..) (Nat.add_le_add (Nat.le_trans (canon_len _) (LX0.out.1)) (Nat.le_refl 1))); omega)).mono ?_
          intro e W9 hm
          obtain ⟨a_v2, c_v2, rfl, Tv2, br⟩ := hm.to
          clear hm
          replace Tv2 := Lib.hid Tv2
          replace B := Lib.hid (B.out.trans (br.mono B.out.size))
          replace Tf0 := Lib.hid (Tf0.out.keep br)
          replace Twas := Lib.hid (Twas.out.keep br)
          replace Tq := Lib.hid (Tq.out.keep br)
          replace Tu := Lib.hid (Tu.out.keep br)
          clear br
          generalize (orL (orL (canon (x)) [p]) [p]).length = n_v2 at *
          go_wp2_with fail
          have C := same8_any a_v2 n_v2 c_v2 (orL (orL (canon (x)) [p]) [p]) a_u n_u c_u (orL (canon (x)) [p]) W9 Tv2.out Tu.out
          rw [decide_eq_true (show (orL (orL (canon (x)) [p]) [p]) = (orL (canon (x)) [p]) from add_twice _ _)] at C
          refine C.mono ?_
          clear C
          rintro e W10 ⟨rfl, hd⟩
          have br := hd.bel
          clear hd
          replace B := Lib.hid (B.out.trans (br.mono B.out.size))
          replace Tf0 := Lib.hid (Tf0.out.keep br)
          replace Twas := Lib.hid (Twas.out.keep br)
          replace Tq := Lib.hid (Tq.out.keep br)
          replace Tu := Lib.hid (Tu.out.keep br)
          replace Tv2 := Lib.hid (Tv2.out.keep br)
          clear br
          clear Tv2
          go_wp2_with fail
          refine (del8_any a_u n_u c_u (orL (canon (x)) [p]) p W10 Tu.out (by have h0 := Tu.out.1; have g0 : (orL (canon (x)) [p]).length ≤ 41 := (Nat.le_trans (take_len ..) (Nat.add_le_add (Nat.le_trans (canon_len _) (LX0.out.1)) (Nat.le_refl 1))); omega)).mono ?_
          intro e W11 hm
          obtain ⟨a_v3, c_v3, rfl, Tv3, br⟩ := hm.to
          clear hm
          replace Tv3 := Lib.hid Tv3
          replace B := Lib.hid (B.out.trans (br.mono B.out.size))
          replace Tf0 := Lib.hid (Tf0.out.keep br)
          replace Twas := Lib.hid (Twas.out.keep br)
          replace Tq := Lib.hid (Tq.out.keep br)
          replace Tu := Lib.hid (Tu.out.keep br)
          clear br
          generalize (lessL (orL (canon (x)) [p]) [p]).length = n_v3 at *
          go_wp2_with fail
          refine (del8_any a_q n_q c_q (canon (x)) p W11 Tq.out (by have h0 := Tq.out.1; have g0 : (canon (x)).length ≤ 40 := (Nat.le_trans (canon_len _) (LX0.out.1)); omega)).mono ?_
          intro e W12 hm
          obtain ⟨a_v4, c_v4, rfl, Tv4, br⟩ := hm.to
          clear hm
          replace Tv4 := Lib.hid Tv4
          replace B := Lib.hid (B.out.trans (br.mono B.out.size))
          replace Tf0 := Lib.hid (Tf0.out.keep br)
          replace Twas := Lib.hid (Twas.out.keep br)
          replace Tq := Lib.hid (Tq.out.keep br)
          replace Tu := Lib.hid (Tu.out.keep br)
          replace Tv3 := Lib.hid (Tv3.out.keep br)
          clear br
          generalize (lessL (canon (x)) [p]).length = n_v4 at *
          go_wp2_with fail
          have C := same8_any a_v3 n_v3 c_v3 (lessL (orL (canon (x)) [p]) [p]) a_v4 n_v4 c_v4 (lessL (canon (x)) [p]) W12 Tv3.out Tv4.out
          rw [decide_eq_true (show (lessL (orL (canon (x)) [p]) [p]) = (lessL (canon (x)) [p]) from add_del _ _)] at C
          refine C.mono ?_
          clear C
          rintro e W13 ⟨rfl, hd⟩
          have br := hd.bel
          clear hd
          replace B := Lib.hid (B.out.trans (br.mono B.out.size))
          replace Tf0 := Lib.hid (Tf0.out.keep br)
          replace Twas := Lib.hid (Twas.out.keep br)
          replace Tq := Lib.hid (Tq.out.keep br)
          replace Tu := Lib.hid (Tu.out.keep br)
          replace Tv3 := Lib.hid (Tv3.out.keep br)
          replace Tv4 := Lib.hid (Tv4.out.keep br)
          clear br
          clear Tv3
          clear Tv4
          go_wp2_with fail
          have C := same8_any s0 n0 c0 (x) a_was n_was c_was (x) W13 Tf0.out Twas.out
          rw [decide_eq_true (show (x) = (x) from rfl)] at C
          refine C.mono ?_
          clear C
          rintro e W14 ⟨rfl, hd⟩
          have br := hd.bel
          clear hd
          replace B := Lib.hid (B.out.trans (br.mono B.out.size))
          replace Tf0 := Lib.hid (Tf0.out.keep br)
          replace Twas := Lib.hid (Twas.out.keep br)
          replace Tq := Lib.hid (Tq.out.keep br)
          replace Tu := Lib.hid (Tu.out.keep br)
          clear br
          go_wp2_with fail
          have hq : n_q ≤ 40 := by rw [← Tq.out.1]; exact Nat.le_trans (canon_len _) (LX0.out.1)
          have e1 : n_u = n_q + 1 := by rw [← Tu.out.1, ← Tq.out.1]; exact add_len KP.out
          have tz : ((n_u : Int) == (n_q : Int) + 1) = true := by rw [e1]; simp
          clear e1
          have C := has8_any s0 n0 c0 (x) p W14 Tf0.out
          rw [decide_eq_false KP.out] at C
          refine C.mono ?_
          clear C
          rintro e w' ⟨rfl, rfl⟩
          go_wp2_with fail
          refine (eknown_any _).mono ?_
          rintro e W15 ⟨rfl, br⟩
          replace B := Lib.hid (B.out.trans (br.mono B.out.size))
          clear br
          go_wp2
          go_ret
          exact ⟨rfl, B.out⟩

    · have lz : (100 : Int) < (m : Int) := by omega
      go_enter Try.func6, Try.ntmps6
      have B := Lib.hid (Below.refl w.heap.size w)
      go_wp2_with fail
      have C := light8_any s0 n0 c0 (x) w Tf0.out S0.out
      rw [decide_eq_true LX0.out] at C
      refine C.mono ?_
      clear C
      rintro e w' ⟨rfl, rfl⟩
      go_wp2_with fail
      refine (eknown_any _).mono ?_
      rintro e W1 ⟨rfl, br⟩
      replace B := Lib.hid (B.out.trans (br.mono B.out.size))
      clear br
      go_wp2
      go_ret
      exact ⟨rfl, B.out⟩

  · have LX0 := Lib.hid lx0
    clear lx0
    go_enter Try.func6, Try.ntmps6
    have B := Lib.hid (Below.refl w.heap.size w)
    go_wp2_with fail
    have C := light8_any s0 n0 c0 (x) w Tf0.out S0.out
    rw [decide_eq_false LX0.out] at C
    refine C.mono ?_
    clear C
    rintro e w' ⟨rfl, rfl⟩
    go_wp2_with fail
    refine (eknown_any _).mono ?_
    rintro e W1 ⟨rfl, br⟩
    replace B := Lib.hid (B.out.trans (br.mono B.out.size))
    clear br
    go_wp2
    go_ret
    exact ⟨rfl, B.out⟩

theorem walk (s0 : Option Addr) (n0 c0 : Nat) (x : List Tx) (t : ByteArray) (w : World) (h0 : TxAt w s0 n0 c0 x ∧ Sh x) (ht : t.size ≤ maxLen) :
    Calls Try.prog 6 #[.slice s0 n0 c0, .string t] w fun e w' => e = .returned (.bool true) ∧ Below w.heap.size w w' := by
  obtain ⟨p, rfl⟩ : ∃ p, t = bs p := ⟨tx t, (bs_tx t).symm⟩
  exact walk0 s0 n0 c0 x p w h0 (by rw [bs_size] at ht; unfold maxLen at ht; omega)

set_option maxRecDepth 100000 in
theorem lifted (os : Os) (started : os.Started) (H : Type) (enc : TypeId × Value → H) :
    ReturnsInHanded {} Try.checked os 6 .any (Rows.setsAgainSpec.pre6 enc Try.prog Try.f6 Rows.setsAgainRow.domain false) (Rows.setsAgainSpec.post enc Try.prog Try.f6 false true false false) := by
  refine returnsInHanded_of_change (C := Try.checked) own started (by kernel_rfl) Try.func6
    (ChangeSpec.witness6 (enc := enc) (C := Try.checked) false ⟨#[], #[.slice none 0 0, .string ByteArray.empty], []⟩ 8 (by kernel_rfl) (by kernel_rfl) (by kernel_rfl) (by kernel_rfl)) ?_
  intro W base args ds gs before hval0 hW hcnd _
  have hval : ∀ (j : Nat) t v, Try.f6.params[j]? = some t → args[j]? = some v → Value.okWide Try.prog W .any base t v := hval0
  have hW' := hW
  obtain ⟨p, q, hA0, hV, rfl, hfz, hnd⟩ := hW
  have hA : DataW.TrodAll enc Try.prog W 0 (fun _ => true) true Try.f6.params.toList args.toList ds p := hA0
  rw [Try.params6] at hA hval
  obtain ⟨v0, vs0, d0, ds0, p0, q0, hargs, rfl, rfl, h0, r0⟩ := trodAll_cons hA
  obtain ⟨v1, vs1, d1, ds1, p1, q1, rfl, rfl, rfl, h1, r1⟩ := trodAll_cons r0
  obtain ⟨rfl, rfl, rfl⟩ := trodAll_nil r1
  obtain rfl : args = #[v0, v1] := by cases args; simp_all
  obtain ⟨rfl, rfl⟩ := trodVars_none hV
  obtain ⟨a0, len0, cap0, rfl⟩ := okWide_slice Try.underlying22 (hval 0 22 v0 rfl rfl)
  have k0 := h0
  have lt0 : ∀ x ∈ p0, x.block < W.heap.size := by obtain ⟨m, hm⟩ := k0; exact DataW.trod_lt m _ _ _ hm
  obtain ⟨z0, w0⟩ := open_strs h0
  obtain ⟨a1, rfl, rfl, rfl, w1⟩ := open_string Try.underlying9 (hval 1 9 v1 rfl rfl) h1
  clear hA0 hval0
  refine (walk a0 len0 cap0 z0 a1 W w0 w1).mono fun e W' ⟨he, bel⟩ => ?_
  subst he
  exact ⟨_, rfl, _, _, _, [], _, [], hW', trodAll_mk1 (shut_bool Try.underlying4 _), (trodAll_cons_mk (Below.trod laidOut (by kernel_rfl) (of_decide_eq_true (by kernel_rfl)) k0 bel lt0) (trodAll_cons_mk (shut_string Try.underlying9 w1) trodAll_mk0)), rfl, bel.frame _, fun h => by cases h⟩

theorem over : Rows.setsAgainRow.holds Try.pinned (OpenSpec.ofChange Rows.setsAgainSpec) :=
  OpenClaim.holds_of_wide 6 Try.f6 rfl rfl rfl rfl rfl rfl rfl ⟨rfl, rfl, rfl, rfl, rfl⟩ rfl rfl rfl rfl rfl (by kernel_rfl) Try.func6 (by kernel_rfl)
    (of_decide_eq_true (by kernel_rfl)) (by unfold Func.isWrapper; first | (rw [if_pos (by decide +kernel)]; kernel_rfl) | (rw [if_neg (by decide +kernel)]; exact ⟨rfl, rfl⟩))
    (fun os started H enc _ => lifted os started H enc)

theorem proved : Rows.SetsAgainSaid := over
end setsAgain
theorem setsAgain_holds : Rows.SetsAgainSaid := setsAgain.proved
#print axioms setsAgain_holds
end Go.Proofs.Ytjpighkbfldloaa
