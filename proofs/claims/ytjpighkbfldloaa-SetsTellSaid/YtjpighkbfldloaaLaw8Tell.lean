/-
  The statement 'SetsTell' of layer 8: what is in any lists, in both, in one, in one alone, is as the document says; so is a list made of any texts.
  No condition on the arguments.
-/
import Derived.Test.YtjpighkbfldloaaEKnown
import Derived.Test.YtjpighkbfldloaaEArgs
import Derived.Test.YtjpighkbfldloaaRows
import Derived.ChangeOld
namespace Go.Proofs.Ytjpighkbfldloaa
namespace setsTell
open Go.ChangeShapes Go.WideShapes Go.ChangeAt Go.RowKit
open Go.ChangeMaps (open_string shut_string)
set_option linter.unusedVariables false
set_option linter.unusedSimpArgs false

theorem own : ownKnob Try.prog.godebug = none := by kernel_rfl

set_option maxRecDepth 100000 in
set_option maxHeartbeats 16000000 in
theorem walk0 (s0 : Option Addr) (n0 c0 : Nat) (x : List Tx) (s1 : Option Addr) (n1 c1 : Nat) (y : List Tx) (p : Tx) (w : World) (h0 : TxAt w s0 n0 c0 x ∧ Sh x) (h1 : TxAt w s1 n1 c1 y ∧ Sh y) (hp : p.length ≤ 9223372036854775807) :
    Calls Try.prog 3 #[.slice s0 n0 c0, .slice s1 n1 c1, .string (bs p)] w fun e w' => e = .returned (.bool true) ∧ Below w.heap.size w w' := by
  have Tf0 := Lib.hid h0.1
  have S0 := Lib.hid h0.2
  clear h0
  have Tf1 := Lib.hid h1.1
  have S1 := Lib.hid h1.2
  clear h1
  obtain ⟨m, hm⟩ : ∃ m, (bs p).size = m := ⟨_, rfl⟩
  have HM := Lib.hid (show m = p.length from by rw [← hm, bs_size])
  have hm2 : m ≤ 9223372036854775807 := by rw [HM.out]; exact hp
  have SP := Lib.hid (show Sh [p] from fun z hz => by obtain rfl := List.mem_singleton.1 hz; exact hp)
  by_cases lx0 : lightL x
  · have LX0 := Lib.hid lx0
    clear lx0
    by_cases lx1 : lightL y
    · have LX1 := Lib.hid lx1
      clear lx1
      by_cases lp : m ≤ 100
      · have lz : ¬ (100 : Int) < (m : Int) := by omega
        go_enter Try.func3, Try.ntmps3
        have B := Lib.hid (Below.refl w.heap.size w)
        go_wp2_with fail
        have C := light8_any s0 n0 c0 (x) w Tf0.out S0.out
        rw [decide_eq_true LX0.out] at C
        refine C.mono ?_
        clear C
        rintro e w' ⟨rfl, rfl⟩
        go_wp2_with fail
        have C := light8_any s1 n1 c1 (y) w Tf1.out S1.out
        rw [decide_eq_true LX1.out] at C
        refine C.mono ?_
        clear C
        rintro e w' ⟨rfl, rfl⟩
        go_wp2_with fail
        refine (rof8_any s0 n0 c0 (x) w Tf0.out S0.out (by have h0 := Tf0.out.1; have g0 : (x).length ≤ 40 := (LX0.out.1); omega)).mono ?_
        rintro e W1 ⟨a_q, c_q, rfl, Tq, br⟩
        replace Tq := Lib.hid Tq
        replace B := Lib.hid (B.out.trans (br.mono B.out.size))
        replace Tf0 := Lib.hid (Tf0.out.keep br)
        replace Tf1 := Lib.hid (Tf1.out.keep br)
        clear br
        generalize (canon (x)).length = n_q at *
        go_wp2_with fail
        have Tone : Hid (TxAt (W1.alloc (.cells #[.string (bs p)] 9)) (some ⟨W1.heap.size, 0, none⟩) 1 1 [p]) := Lib.hid (tx_lit (l := [p]) (heap_new W1 _))
        have br := (Below.refl W1.heap.size W1).alloc (Nat.le_refl _) (.cells #[.string (bs p)] 9)
        replace B := Lib.hid (B.out.trans (br.mono B.out.size))
        replace Tf0 := Lib.hid (Tf0.out.keep br)
        replace Tf1 := Lib.hid (Tf1.out.keep br)
        replace Tq := Lib.hid (Tq.out.keep br)
        clear br
        have Zone := Lib.hid (show (W1.alloc (.cells #[.string (bs p)] 9)).heap.size = W1.heap.size + 1 from by simp)
        generalize W1.alloc (.cells #[.string (bs p)] 9) = W2 at *
        obtain ⟨r, hr⟩ : ∃ r, decide (SS x) = r := ⟨_, rfl⟩
        have HR := Lib.hid hr
        clear hr
        have C := right8_any s0 n0 c0 (x) W2 Tf0.out
        rw [HR.out] at C
        refine C.mono ?_
        clear C
        rintro e W3 ⟨rfl, hd⟩
        have br := hd.bel
        clear hd
        replace B := Lib.hid (B.out.trans (br.mono B.out.size))
        replace Tf0 := Lib.hid (Tf0.out.keep br)
        replace Tf1 := Lib.hid (Tf1.out.keep br)
        replace Tq := Lib.hid (Tq.out.keep br)
        replace Tone := Lib.hid (Tone.out.keep br)
        clear br
        go_wp2_with fail
        have C := rright8_any s0 n0 c0 (x) W3 Tf0.out S0.out
        rw [HR.out] at C
        refine C.mono ?_
        clear C
        rintro e W4 ⟨rfl, hd⟩
        have br := hd.bel
        clear hd
        replace B := Lib.hid (B.out.trans (br.mono B.out.size))
        replace Tf0 := Lib.hid (Tf0.out.keep br)
        replace Tf1 := Lib.hid (Tf1.out.keep br)
        replace Tq := Lib.hid (Tq.out.keep br)
        replace Tone := Lib.hid (Tone.out.keep br)
        clear br
        have tr : (r == r) = true := beq_self_eq_true r
        go_wp2_with fail
        refine (of_any s0 n0 c0 (x) W4 Tf0.out (by have h0 := Tf0.out.1; have g0 : (x).length ≤ 40 := (LX0.out.1); omega)).mono ?_
        intro e W5 hm
        obtain ⟨a_u, c_u, rfl, Tu, br⟩ := hm.to
        clear hm
        replace Tu := Lib.hid Tu
        replace B := Lib.hid (B.out.trans (br.mono B.out.size))
        replace Tf0 := Lib.hid (Tf0.out.keep br)
        replace Tf1 := Lib.hid (Tf1.out.keep br)
        replace Tq := Lib.hid (Tq.out.keep br)
        replace Tone := Lib.hid (Tone.out.keep br)
        clear br
        generalize (canon (x)).length = n_u at *
        go_wp2_with fail
        have C := same8_any a_u n_u c_u (canon (x)) a_q n_q c_q (canon (x)) W5 Tu.out Tq.out
        rw [decide_eq_true (show (canon (x)) = (canon (x)) from rfl)] at C
        refine C.mono ?_
        clear C
        rintro e W6 ⟨rfl, hd⟩
        have br := hd.bel
        clear hd
        replace B := Lib.hid (B.out.trans (br.mono B.out.size))
        replace Tf0 := Lib.hid (Tf0.out.keep br)
        replace Tf1 := Lib.hid (Tf1.out.keep br)
        replace Tq := Lib.hid (Tq.out.keep br)
        replace Tone := Lib.hid (Tone.out.keep br)
        replace Tu := Lib.hid (Tu.out.keep br)
        clear br
        clear Tu
        go_wp2_with fail
        obtain ⟨r2, hr⟩ : ∃ r, decide (p ∈ x) = r := ⟨_, rfl⟩
        have HR2 := Lib.hid hr
        clear hr
        have C := has8_any s0 n0 c0 (x) p W6 Tf0.out
        rw [HR2.out] at C
        refine C.mono ?_
        clear C
        rintro e w' ⟨rfl, rfl⟩
        go_wp2_with fail
        have C := rhas8_any s0 n0 c0 (x) p W6 Tf0.out
        rw [HR2.out] at C
        refine C.mono ?_
        clear C
        rintro e w' ⟨rfl, rfl⟩
        have tr2 : (r2 == r2) = true := beq_self_eq_true r2
        go_wp2_with fail
        refine (and8_any s0 n0 c0 (x) s1 n1 c1 (y) W6 Tf0.out Tf1.out (by have h0 := Tf0.out.1; have g0 : (x).length ≤ 40 := (LX0.out.1); have h1 := Tf1.out.1; have g1 : (y).length ≤ 40 := (LX1.out.1); omega)).mono ?_
        intro e W7 hm
        obtain ⟨a_u2, c_u2, rfl, Tu2, br⟩ := hm.to
        clear hm
        replace Tu2 := Lib.hid Tu2
        replace B := Lib.hid (B.out.trans (br.mono B.out.size))
        replace Tf0 := Lib.hid (Tf0.out.keep br)
        replace Tf1 := Lib.hid (Tf1.out.keep br)
        replace Tq := Lib.hid (Tq.out.keep br)
        replace Tone := Lib.hid (Tone.out.keep br)
        clear br
        generalize (andL (x) (y)).length = n_u2 at *
        go_wp2_with fail
        refine (rpick8_any s0 n0 c0 (x) s1 n1 c1 (y) true W7 Tf0.out Tf1.out S0.out (by have h0 := Tf0.out.1; have g0 : (x).length ≤ 40 := (LX0.out.1); omega)).mono ?_
        rintro e W8 ⟨a_v2, c_v2, rfl, Tv2, br⟩
        replace Tv2 := Lib.hid Tv2
        replace B := Lib.hid (B.out.trans (br.mono B.out.size))
        replace Tf0 := Lib.hid (Tf0.out.keep br)
        replace Tf1 := Lib.hid (Tf1.out.keep br)
        replace Tq := Lib.hid (Tq.out.keep br)
        replace Tone := Lib.hid (Tone.out.keep br)
        replace Tu2 := Lib.hid (Tu2.out.keep br)
        clear br
        generalize (pickL (x) (y) true).length = n_v2 at *
        go_wp2_with fail
        have C := same8_any a_u2 n_u2 c_u2 (andL (x) (y)) a_v2 n_v2 c_v2 (pickL (x) (y) true) W8 Tu2.out Tv2.out
        rw [decide_eq_true (show (andL (x) (y)) = (pickL (x) (y) true) from (pick_and _ _).symm)] at C
        refine C.mono ?_
        clear C
        rintro e W9 ⟨rfl, hd⟩
        have br := hd.bel
        clear hd
        replace B := Lib.hid (B.out.trans (br.mono B.out.size))
        replace Tf0 := Lib.hid (Tf0.out.keep br)
        replace Tf1 := Lib.hid (Tf1.out.keep br)
        replace Tq := Lib.hid (Tq.out.keep br)
        replace Tone := Lib.hid (Tone.out.keep br)
        replace Tu2 := Lib.hid (Tu2.out.keep br)
        replace Tv2 := Lib.hid (Tv2.out.keep br)
        clear br
        clear Tu2
        clear Tv2
        go_wp2_with fail
        refine (less8_any s0 n0 c0 (x) s1 n1 c1 (y) W9 Tf0.out Tf1.out (by have h0 := Tf0.out.1; have g0 : (x).length ≤ 40 := (LX0.out.1); have h1 := Tf1.out.1; have g1 : (y).length ≤ 40 := (LX1.out.1); omega)).mono ?_
        intro e W10 hm
        obtain ⟨a_u3, c_u3, rfl, Tu3, br⟩ := hm.to
        clear hm
        replace Tu3 := Lib.hid Tu3
        replace B := Lib.hid (B.out.trans (br.mono B.out.size))
        replace Tf0 := Lib.hid (Tf0.out.keep br)
        replace Tf1 := Lib.hid (Tf1.out.keep br)
        replace Tq := Lib.hid (Tq.out.keep br)
        replace Tone := Lib.hid (Tone.out.keep br)
        clear br
        generalize (lessL (x) (y)).length = n_u3 at *
        go_wp2_with fail
        refine (rpick8_any s0 n0 c0 (x) s1 n1 c1 (y) false W10 Tf0.out Tf1.out S0.out (by have h0 := Tf0.out.1; have g0 : (x).length ≤ 40 := (LX0.out.1); omega)).mono ?_
        rintro e W11 ⟨a_v3, c_v3, rfl, Tv3, br⟩
        replace Tv3 := Lib.hid Tv3
        replace B := Lib.hid (B.out.trans (br.mono B.out.size))
        replace Tf0 := Lib.hid (Tf0.out.keep br)
        replace Tf1 := Lib.hid (Tf1.out.keep br)
        replace Tq := Lib.hid (Tq.out.keep br)
        replace Tone := Lib.hid (Tone.out.keep br)
        replace Tu3 := Lib.hid (Tu3.out.keep br)
        clear br
        generalize (pickL (x) (y) false).length = n_v3 at *
        go_wp2_with fail
        have C := same8_any a_u3 n_u3 c_u3 (lessL (x) (y)) a_v3 n_v3 c_v3 (pickL (x) (y) false) W11 Tu3.out Tv3.out
        rw [decide_eq_true (show (lessL (x) (y)) = (pickL (x) (y) false) from (pick_less _ _).symm)] at C
        refine C.mono ?_
        clear C
        rintro e W12 ⟨rfl, hd⟩
        have br := hd.bel
        clear hd
        replace B := Lib.hid (B.out.trans (br.mono B.out.size))
        replace Tf0 := Lib.hid (Tf0.out.keep br)
        replace Tf1 := Lib.hid (Tf1.out.keep br)
        replace Tq := Lib.hid (Tq.out.keep br)
        replace Tone := Lib.hid (Tone.out.keep br)
        replace Tu3 := Lib.hid (Tu3.out.keep br)
        replace Tv3 := Lib.hid (Tv3.out.keep br)
        clear br
        clear Tu3
        clear Tv3
        go_wp2_with fail
        refine (or8_any s0 n0 c0 (x) s1 n1 c1 (y) W12 Tf0.out Tf1.out (by have h0 := Tf0.out.1; have g0 : (x).length ≤ 40 := (LX0.out.1); have h1 := Tf1.out.1; have g1 : (y).length ≤ 40 := (LX1.out.1); omega)).mono ?_
        intro e W13 hm
        obtain ⟨a_u4, c_u4, rfl, Tu4, br⟩ := hm.to
        clear hm
        replace Tu4 := Lib.hid Tu4
        replace B := Lib.hid (B.out.trans (br.mono B.out.size))
        replace Tf0 := Lib.hid (Tf0.out.keep br)
        replace Tf1 := Lib.hid (Tf1.out.keep br)
        replace Tq := Lib.hid (Tq.out.keep br)
        replace Tone := Lib.hid (Tone.out.keep br)
        clear br
        generalize (orL (x) (y)).length = n_u4 at *
        go_wp2_with fail
        refine (ror8_any s0 n0 c0 (x) s1 n1 c1 (y) W13 Tf0.out Tf1.out S0.out S1.out (by have h0 := Tf0.out.1; have g0 : (x).length ≤ 40 := (LX0.out.1); have h1 := Tf1.out.1; have g1 : (y).length ≤ 40 := (LX1.out.1); omega)).mono ?_
        rintro e W14 ⟨a_v4, c_v4, rfl, Tv4, br⟩
        replace Tv4 := Lib.hid Tv4
        replace B := Lib.hid (B.out.trans (br.mono B.out.size))
        replace Tf0 := Lib.hid (Tf0.out.keep br)
        replace Tf1 := Lib.hid (Tf1.out.keep br)
        replace Tq := Lib.hid (Tq.out.keep br)
        replace Tone := Lib.hid (Tone.out.keep br)
        replace Tu4 := Lib.hid (Tu4.out.keep br)
        clear br
        generalize (orL (x) (y)).length = n_v4 at *
        go_wp2_with fail
        have C := same8_any a_u4 n_u4 c_u4 (orL (x) (y)) a_v4 n_v4 c_v4 (orL (x) (y)) W14 Tu4.out Tv4.out
        rw [decide_eq_true (show (orL (x) (y)) = (orL (x) (y)) from rfl)] at C
        refine C.mono ?_
        clear C
        rintro e W15 ⟨rfl, hd⟩
        have br := hd.bel
        clear hd
        replace B := Lib.hid (B.out.trans (br.mono B.out.size))
        replace Tf0 := Lib.hid (Tf0.out.keep br)
        replace Tf1 := Lib.hid (Tf1.out.keep br)
        replace Tq := Lib.hid (Tq.out.keep br)
        replace Tone := Lib.hid (Tone.out.keep br)
        replace Tu4 := Lib.hid (Tu4.out.keep br)
        replace Tv4 := Lib.hid (Tv4.out.keep br)
        clear br
        clear Tu4
        clear Tv4
        go_wp2_with fail
        refine (add8_any s0 n0 c0 (x) p W15 Tf0.out (by have h0 := Tf0.out.1; have g0 : (x).length ≤ 40 := (LX0.out.1); omega)).mono ?_
        intro e W16 hm
        obtain ⟨a_u5, c_u5, rfl, Tu5, br⟩ := hm.to
        clear hm
        replace Tu5 := Lib.hid Tu5
        replace B := Lib.hid (B.out.trans (br.mono B.out.size))
        replace Tf0 := Lib.hid (Tf0.out.keep br)
        replace Tf1 := Lib.hid (Tf1.out.keep br)
        replace Tq := Lib.hid (Tq.out.keep br)
        replace Tone := Lib.hid (Tone.out.keep br)
        clear br
        generalize (orL (x) [p]).length = n_u5 at *
        go_wp2_with fail
        refine (ror8_any s0 n0 c0 (x) (some ⟨W1.heap.size, 0, none⟩) 1 1 ([p]) W16 Tf0.out Tone.out S0.out SP.out (by have h0 := Tf0.out.1; have g0 : (x).length ≤ 40 := (LX0.out.1); have h1 := Tone.out.1; have g1 : ([p]).length ≤ 1 := (Nat.le_refl _); omega)).mono ?_
        rintro e W17 ⟨a_v5, c_v5, rfl, Tv5, br⟩
        replace Tv5 := Lib.hid Tv5
        replace B := Lib.hid (B.out.trans (br.mono B.out.size))
        replace Tf0 := Lib.hid (Tf0.out.keep br)
        replace Tf1 := Lib.hid (Tf1.out.keep br)
        replace Tq := Lib.hid (Tq.out.keep br)
        replace Tone := Lib.hid (Tone.out.keep br)
        replace Tu5 := Lib.hid (Tu5.out.keep br)
        clear br
        generalize (orL (x) ([p])).length = n_v5 at *
        go_wp2_with fail
        have C := same8_any a_u5 n_u5 c_u5 (orL (x) [p]) a_v5 n_v5 c_v5 (orL (x) ([p])) W17 Tu5.out Tv5.out
        rw [decide_eq_true (show (orL (x) [p]) = (orL (x) ([p])) from rfl)] at C
        refine C.mono ?_
        clear C
        rintro e W18 ⟨rfl, hd⟩
        have br := hd.bel
        clear hd
        replace B := Lib.hid (B.out.trans (br.mono B.out.size))
        replace Tf0 := Lib.hid (Tf0.out.keep br)
        replace Tf1 := Lib.hid (Tf1.out.keep br)
        replace Tq := Lib.hid (Tq.out.keep br)
        replace Tone := Lib.hid (Tone.out.keep br)
        replace Tu5 := Lib.hid (Tu5.out.keep br)
        replace Tv5 := Lib.hid (Tv5.out.keep br)
        clear br
        clear Tu5
        clear Tv5
        go_wp2_with fail
        refine (del8_any s0 n0 c0 (x) p W18 Tf0.out (by have h0 := Tf0.out.1; have g0 : (x).length ≤ 40 := (LX0.out.1); omega)).mono ?_
        intro e W19 hm
        obtain ⟨a_u6, c_u6, rfl, Tu6, br⟩ := hm.to
        clear hm
        replace Tu6 := Lib.hid Tu6
        replace B := Lib.hid (B.out.trans (br.mono B.out.size))
        replace Tf0 := Lib.hid (Tf0.out.keep br)
        replace Tf1 := Lib.hid (Tf1.out.keep br)
        replace Tq := Lib.hid (Tq.out.keep br)
        replace Tone := Lib.hid (Tone.out.keep br)
        clear br
        generalize (lessL (x) [p]).length = n_u6 at *
        go_wp2_with fail
        refine (rpick8_any s0 n0 c0 (x) (some ⟨W1.heap.size, 0, none⟩) 1 1 ([p]) false W19 Tf0.out Tone.out S0.out (by have h0 := Tf0.out.1; have g0 : (x).length ≤ 40 := (LX0.out.1); omega)).mono ?_
        rintro e W20 ⟨a_v6, c_v6, rfl, Tv6, br⟩
        replace Tv6 := Lib.hid Tv6
        replace B := Lib.hid (B.out.trans (br.mono B.out.size))
        replace Tf0 := Lib.hid (Tf0.out.keep br)
        replace Tf1 := Lib.hid (Tf1.out.keep br)
        replace Tq := Lib.hid (Tq.out.keep br)
        replace Tone := Lib.hid (Tone.out.keep br)
        replace Tu6 := Lib.hid (Tu6.out.keep br)
        clear br
        generalize (pickL (x) ([p]) false).length = n_v6 at *
        go_wp2_with fail
        have C := same8_any a_u6 n_u6 c_u6 (lessL (x) [p]) a_v6 n_v6 c_v6 (pickL (x) ([p]) false) W20 Tu6.out Tv6.out
        rw [decide_eq_true (show (lessL (x) [p]) = (pickL (x) ([p]) false) from (pick_less _ _).symm)] at C
        refine C.mono ?_
        clear C
        rintro e W21 ⟨rfl, hd⟩
        have br := hd.bel
        clear hd
        replace B := Lib.hid (B.out.trans (br.mono B.out.size))
        replace Tf0 := Lib.hid (Tf0.out.keep br)
        replace Tf1 := Lib.hid (Tf1.out.keep br)
        replace Tq := Lib.hid (Tq.out.keep br)
        replace Tone := Lib.hid (Tone.out.keep br)
        replace Tu6 := Lib.hid (Tu6.out.keep br)
        replace Tv6 := Lib.hid (Tv6.out.keep br)
        clear br
        clear Tu6
        clear Tv6
        go_wp2_with fail
        refine (eknown_any _).mono ?_
        rintro e W22 ⟨rfl, br⟩
        replace B := Lib.hid (B.out.trans (br.mono B.out.size))
        clear br
        go_wp2
        go_ret
        exact ⟨rfl, B.out⟩

      · have lz : (100 : Int) < (m : Int) := by omega
        go_enter Try.func3, Try.ntmps3
        have B := Lib.hid (Below.refl w.heap.size w)
        go_wp2_with fail
        have C := light8_any s0 n0 c0 (x) w Tf0.out S0.out
        rw [decide_eq_true LX0.out] at C
        refine C.mono ?_
        clear C
        rintro e w' ⟨rfl, rfl⟩
        go_wp2_with fail
        have C := light8_any s1 n1 c1 (y) w Tf1.out S1.out
        rw [decide_eq_true LX1.out] at C
        refine C.mono ?_
        clear C
        rintro e w' ⟨rfl, rfl⟩
        go_wp2_with fail
        refine (eknown_any _).mono ?_
        rintro e W1 ⟨rfl, br⟩
        replace B := Lib.hid (B.out.trans (br.mono B.out.size))
        clear br
        go_wp2
        go_ret
        exact ⟨rfl, B.out⟩

    · have LX1 := Lib.hid lx1
      clear lx1
      go_enter Try.func3, Try.ntmps3
      have B := Lib.hid (Below.refl w.heap.size w)
      go_wp2_with fail
      have C := light8_any s0 n0 c0 (x) w Tf0.out S0.out
      rw [decide_eq_true LX0.out] at C
      refine C.mono ?_
      clear C
      rintro e w' ⟨rfl, rfl⟩
      go_wp2_with fail
      have C := light8_any s1 n1 c1 (y) w Tf1.out S1.out
      rw [decide_eq_false LX1.out] at C
      refine C.mono ?_
      clear C
      rintro e w' ⟨rfl, rfl⟩
      go_wp2_with fail
      refine (eknown_any _).mono ?_
      rintro e W1 ⟨rfl, br⟩
      replace B := Lib.hid (B.out.trans (br.mono B.out.size))
      clear br
      go_wp2
      go_ret
      exact ⟨rfl, B.out⟩

  · have LX0 := Lib.hid lx0
    clear lx0
    go_enter Try.func3, Try.ntmps3
    have B := Lib.hid (Below.refl w.heap.size w)
    go_wp2_with fail
    have C := light8_any s0 n0 c0 (x) w Tf0.out S0.out
    rw [decide_eq_false LX0.out] at C
    refine C.mono ?_
    clear C
    rintro e w' ⟨rfl, rfl⟩
    go_wp2_with fail
    refine (eknown_any _).mono ?_
    rintro e W1 ⟨rfl, br⟩
    replace B := Lib.hid (B.out.trans (br.mono B.out.size))
    clear br
    go_wp2
    go_ret
    exact ⟨rfl, B.out⟩

theorem walk (s0 : Option Addr) (n0 c0 : Nat) (x : List Tx) (s1 : Option Addr) (n1 c1 : Nat) (y : List Tx) (t : ByteArray) (w : World) (h0 : TxAt w s0 n0 c0 x ∧ Sh x) (h1 : TxAt w s1 n1 c1 y ∧ Sh y) (ht : t.size ≤ maxLen) :
    Calls Try.prog 3 #[.slice s0 n0 c0, .slice s1 n1 c1, .string t] w fun e w' => e = .returned (.bool true) ∧ Below w.heap.size w w' := by
  obtain ⟨p, rfl⟩ : ∃ p, t = bs p := ⟨tx t, (bs_tx t).symm⟩
  exact walk0 s0 n0 c0 x s1 n1 c1 y p w h0 h1 (by rw [bs_size] at ht; unfold maxLen at ht; omega)

set_option maxRecDepth 100000 in
theorem lifted (os : Os) (started : os.Started) (H : Type) (enc : TypeId × Value → H) :
    ReturnsInHanded {} Try.checked os 3 .any (Rows.setsTellSpec.pre6 enc Try.prog Try.f3 Rows.setsTellRow.domain false) (Rows.setsTellSpec.post enc Try.prog Try.f3 false true false false) := by
  refine returnsInHanded_of_change (C := Try.checked) own started (by kernel_rfl) Try.func3
    (ChangeSpec.witness6 (enc := enc) (C := Try.checked) false ⟨#[], #[.slice none 0 0, .slice none 0 0, .string ByteArray.empty], []⟩ 8 (by kernel_rfl) (by kernel_rfl) (by kernel_rfl) (by kernel_rfl)) ?_
  intro W base args ds gs before hval0 hW hcnd _
  have hval : ∀ (j : Nat) t v, Try.f3.params[j]? = some t → args[j]? = some v → Value.okWide Try.prog W .any base t v := hval0
  have hW' := hW
  obtain ⟨p, q, hA0, hV, rfl, hfz, hnd⟩ := hW
  have hA : DataW.TrodAll enc Try.prog W 0 (fun _ => true) true Try.f3.params.toList args.toList ds p := hA0
  rw [Try.params3] at hA hval
  obtain ⟨v0, vs0, d0, ds0, p0, q0, hargs, rfl, rfl, h0, r0⟩ := trodAll_cons hA
  obtain ⟨v1, vs1, d1, ds1, p1, q1, rfl, rfl, rfl, h1, r1⟩ := trodAll_cons r0
  obtain ⟨v2, vs2, d2, ds2, p2, q2, rfl, rfl, rfl, h2, r2⟩ := trodAll_cons r1
  obtain ⟨rfl, rfl, rfl⟩ := trodAll_nil r2
  obtain rfl : args = #[v0, v1, v2] := by cases args; simp_all
  obtain ⟨rfl, rfl⟩ := trodVars_none hV
  obtain ⟨a0, len0, cap0, rfl⟩ := okWide_slice Try.underlying22 (hval 0 22 v0 rfl rfl)
  have k0 := h0
  have lt0 : ∀ x ∈ p0, x.block < W.heap.size := by obtain ⟨m, hm⟩ := k0; exact DataW.trod_lt m _ _ _ hm
  obtain ⟨z0, w0⟩ := open_strs h0
  obtain ⟨a1, len1, cap1, rfl⟩ := okWide_slice Try.underlying22 (hval 1 22 v1 rfl rfl)
  have k1 := h1
  have lt1 : ∀ x ∈ p1, x.block < W.heap.size := by obtain ⟨m, hm⟩ := k1; exact DataW.trod_lt m _ _ _ hm
  obtain ⟨z1, w1⟩ := open_strs h1
  obtain ⟨a2, rfl, rfl, rfl, w2⟩ := open_string Try.underlying9 (hval 2 9 v2 rfl rfl) h2
  clear hA0 hval0
  refine (walk a0 len0 cap0 z0 a1 len1 cap1 z1 a2 W w0 w1 w2).mono fun e W' ⟨he, bel⟩ => ?_
  subst he
  exact ⟨_, rfl, _, _, _, [], _, [], hW', trodAll_mk1 (shut_bool Try.underlying4 _), (trodAll_cons_mk (Below.trod laidOut (by kernel_rfl) (of_decide_eq_true (by kernel_rfl)) k0 bel lt0) (trodAll_cons_mk (Below.trod laidOut (by kernel_rfl) (of_decide_eq_true (by kernel_rfl)) k1 bel lt1) (trodAll_cons_mk (shut_string Try.underlying9 w2) trodAll_mk0))), rfl, bel.frame _, fun h => by cases h⟩

theorem over : Rows.setsTellRow.holds Try.pinned (OpenSpec.ofChange Rows.setsTellSpec) :=
  OpenClaim.holds_of_wide 3 Try.f3 rfl rfl rfl rfl rfl rfl rfl ⟨rfl, rfl, rfl, rfl, rfl⟩ rfl rfl rfl rfl rfl (by kernel_rfl) Try.func3 (by kernel_rfl)
    (of_decide_eq_true (by kernel_rfl)) (by unfold Func.isWrapper; first | (rw [if_pos (by decide +kernel)]; kernel_rfl) | (rw [if_neg (by decide +kernel)]; exact ⟨rfl, rfl⟩))
    (fun os started H enc _ => lifted os started H enc)

theorem proved : Rows.SetsTellSaid := over
end setsTell
theorem setsTell_holds : Rows.SetsTellSaid := setsTell.proved
#print axioms setsTell_holds
end Go.Proofs.Ytjpighkbfldloaa
