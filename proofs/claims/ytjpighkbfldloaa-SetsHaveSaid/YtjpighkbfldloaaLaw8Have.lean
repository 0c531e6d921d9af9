/-
  The statement 'SetsHave' of layer 8: a text is in And just if it is in both, in Or if it is in one of both, in Less if it is in the one, and not in the other; all are sorted.
  No condition on the arguments.
-/
import Derived.Test.YtjpighkbfldloaaEKnown
import Derived.Test.YtjpighkbfldloaaEArgs
import Derived.Test.YtjpighkbfldloaaRows
import Derived.ChangeOld
namespace Go.Proofs.Ytjpighkbfldloaa
namespace setsHave
open Go.ChangeShapes Go.WideShapes Go.ChangeAt Go.RowKit
open Go.ChangeMaps (open_string shut_string)
set_option linter.unusedVariables false
set_option linter.unusedSimpArgs false

theorem own : ownKnob Try.prog.godebug = none := by kernel_rfl

set_option maxRecDepth 100000 in
set_option maxHeartbeats 16000000 in
theorem walk0 (s0 : Option Addr) (n0 c0 : Nat) (x : List Tx) (s1 : Option Addr) (n1 c1 : Nat) (y : List Tx) (p : Tx) (w : World) (h0 : TxAt w s0 n0 c0 x ∧ Sh x) (h1 : TxAt w s1 n1 c1 y ∧ Sh y) (hp : p.length ≤ 9223372036854775807) :
    Calls Try.prog 4 #[.slice s0 n0 c0, .slice s1 n1 c1, .string (bs p)] w fun e w' => e = .returned (.bool true) ∧ Below w.heap.size w w' := by
  have Tf0 := Lib.hid h0.1
  have S0 := Lib.hid h0.2
  clear h0
  have Tf1 := Lib.hid h1.1
  have S1 := Lib.hid h1.2
  clear h1
  obtain ⟨m, hm⟩ : ∃ m, (bs p).size = m := ⟨_, rfl⟩
  have HM := Lib.hid (show m = p.length from by rw [← hm, bs_size])
  have hm2 : m ≤ 9223372036854775807 := by rw [HM.out]; exact hp
  by_cases lx0 : lightL x
  · have LX0 := Lib.hid lx0
    clear lx0
    by_cases lx1 : lightL y
    · have LX1 := Lib.hid lx1
      clear lx1
      by_cases lp : m ≤ 100
      · have lz : ¬ (100 : Int) < (m : Int) := by omega
        by_cases kx : p ∈ x
        · have KX := Lib.hid kx
          clear kx
          by_cases ky : p ∈ y
          · have KY := Lib.hid ky
            clear ky
            go_enter Try.func4, Try.ntmps4
            have B := Lib.hid (Below.refl w.heap.size w)
            go_wp2_with fail
            have C := light8_any s0 n0 c0 (x) w Tf0.out S0.out
            rw [decide_eq_true LX0.out] at C
            refine C.mono ?_
            clear C
            rintro e w' ⟨rfl, rfl⟩
            go_wp2_with fail
            have C := light8_any s1 n1 c1 (y) w Tf1.out S1.out
            rw [decide_eq_true LX1.out] at C
            refine C.mono ?_
            clear C
            rintro e w' ⟨rfl, rfl⟩
            go_wp2_with fail
            have C := has8_any s0 n0 c0 (x) p w Tf0.out
            rw [decide_eq_true (show p ∈ x from KX.out)] at C
            refine C.mono ?_
            clear C
            rintro e w' ⟨rfl, rfl⟩
            go_wp2_with fail
            have C := has8_any s1 n1 c1 (y) p w Tf1.out
            rw [decide_eq_true (show p ∈ y from KY.out)] at C
            refine C.mono ?_
            clear C
            rintro e w' ⟨rfl, rfl⟩
            go_wp2_with fail
            refine (and8_any s0 n0 c0 (x) s1 n1 c1 (y) w Tf0.out Tf1.out (by have h0 := Tf0.out.1; have g0 : (x).length ≤ 40 := (LX0.out.1); have h1 := Tf1.out.1; have g1 : (y).length ≤ 40 := (LX1.out.1); omega)).mono ?_
            intro e W1 hm
            obtain ⟨a_u1, c_u1, rfl, Tu1, br⟩ := hm.to
            clear hm
            replace Tu1 := Lib.hid Tu1
            replace B := Lib.hid (B.out.trans (br.mono B.out.size))
            replace Tf0 := Lib.hid (Tf0.out.keep br)
            replace Tf1 := Lib.hid (Tf1.out.keep br)
            clear br
            generalize (andL (x) (y)).length = n_u1 at *
            go_wp2_with fail
            refine (or8_any s0 n0 c0 (x) s1 n1 c1 (y) W1 Tf0.out Tf1.out (by have h0 := Tf0.out.1; have g0 : (x).length ≤ 40 := (LX0.out.1); have h1 := Tf1.out.1; have g1 : (y).length ≤ 40 := (LX1.out.1); omega)).mono ?_
            intro e W2 hm
            obtain ⟨a_u2, c_u2, rfl, Tu2, br⟩ := hm.to
            clear hm
            replace Tu2 := Lib.hid Tu2
            replace B := Lib.hid (B.out.trans (br.mono B.out.size))
            replace Tf0 := Lib.hid (Tf0.out.keep br)
            replace Tf1 := Lib.hid (Tf1.out.keep br)
            replace Tu1 := Lib.hid (Tu1.out.keep br)
            clear br
            generalize (orL (x) (y)).length = n_u2 at *
            go_wp2_with fail
            refine (less8_any s0 n0 c0 (x) s1 n1 c1 (y) W2 Tf0.out Tf1.out (by have h0 := Tf0.out.1; have g0 : (x).length ≤ 40 := (LX0.out.1); have h1 := Tf1.out.1; have g1 : (y).length ≤ 40 := (LX1.out.1); omega)).mono ?_
            intro e W3 hm
            obtain ⟨a_u3, c_u3, rfl, Tu3, br⟩ := hm.to
            clear hm
            replace Tu3 := Lib.hid Tu3
            replace B := Lib.hid (B.out.trans (br.mono B.out.size))
            replace Tf0 := Lib.hid (Tf0.out.keep br)
            replace Tf1 := Lib.hid (Tf1.out.keep br)
            replace Tu1 := Lib.hid (Tu1.out.keep br)
            replace Tu2 := Lib.hid (Tu2.out.keep br)
            clear br
            generalize (lessL (x) (y)).length = n_u3 at *
            go_wp2_with fail
            have C := has8_any a_u1 n_u1 c_u1 (andL (x) (y)) p W3 Tu1.out
            rw [decide_eq_true (show p ∈ andL (x) (y) from mem_and.2 ⟨KX.out, KY.out⟩)] at C
            refine C.mono ?_
            clear C
            rintro e w' ⟨rfl, rfl⟩
            go_wp2_with fail
            have C := has8_any a_u2 n_u2 c_u2 (orL (x) (y)) p W3 Tu2.out
            rw [decide_eq_true (show p ∈ orL (x) (y) from mem_or.2 (.inl KX.out))] at C
            refine C.mono ?_
            clear C
            rintro e w' ⟨rfl, rfl⟩
            go_wp2_with fail
            have C := has8_any a_u3 n_u3 c_u3 (lessL (x) (y)) p W3 Tu3.out
            rw [decide_eq_false (show ¬ p ∈ lessL (x) (y) from fun h => (mem_less.1 h).2 KY.out)] at C
            refine C.mono ?_
            clear C
            rintro e w' ⟨rfl, rfl⟩
            go_wp2_with fail
            have C := right8_any a_u1 n_u1 c_u1 (andL (x) (y)) W3 Tu1.out
            rw [decide_eq_true (show SS (andL (x) (y)) from take_ss ..)] at C
            refine C.mono ?_
            clear C
            rintro e W4 ⟨rfl, hd⟩
            have br := hd.bel
            clear hd
            replace B := Lib.hid (B.out.trans (br.mono B.out.size))
            replace Tf0 := Lib.hid (Tf0.out.keep br)
            replace Tf1 := Lib.hid (Tf1.out.keep br)
            replace Tu1 := Lib.hid (Tu1.out.keep br)
            replace Tu2 := Lib.hid (Tu2.out.keep br)
            replace Tu3 := Lib.hid (Tu3.out.keep br)
            clear br
            go_wp2_with fail
            have C := right8_any a_u2 n_u2 c_u2 (orL (x) (y)) W4 Tu2.out
            rw [decide_eq_true (show SS (orL (x) (y)) from take_ss ..)] at C
            refine C.mono ?_
            clear C
            rintro e W5 ⟨rfl, hd⟩
            have br := hd.bel
            clear hd
            replace B := Lib.hid (B.out.trans (br.mono B.out.size))
            replace Tf0 := Lib.hid (Tf0.out.keep br)
            replace Tf1 := Lib.hid (Tf1.out.keep br)
            replace Tu1 := Lib.hid (Tu1.out.keep br)
            replace Tu2 := Lib.hid (Tu2.out.keep br)
            replace Tu3 := Lib.hid (Tu3.out.keep br)
            clear br
            go_wp2_with fail
            have C := right8_any a_u3 n_u3 c_u3 (lessL (x) (y)) W5 Tu3.out
            rw [decide_eq_true (show SS (lessL (x) (y)) from take_ss ..)] at C
            refine C.mono ?_
            clear C
            rintro e W6 ⟨rfl, hd⟩
            have br := hd.bel
            clear hd
            replace B := Lib.hid (B.out.trans (br.mono B.out.size))
            replace Tf0 := Lib.hid (Tf0.out.keep br)
            replace Tf1 := Lib.hid (Tf1.out.keep br)
            replace Tu1 := Lib.hid (Tu1.out.keep br)
            replace Tu2 := Lib.hid (Tu2.out.keep br)
            replace Tu3 := Lib.hid (Tu3.out.keep br)
            clear br
            go_wp2_with fail
            refine (add8_any s0 n0 c0 (x) p W6 Tf0.out (by have h0 := Tf0.out.1; have g0 : (x).length ≤ 40 := (LX0.out.1); omega)).mono ?_
            intro e W7 hm
            obtain ⟨a_u5, c_u5, rfl, Tu5, br⟩ := hm.to
            clear hm
            replace Tu5 := Lib.hid Tu5
            replace B := Lib.hid (B.out.trans (br.mono B.out.size))
            replace Tf0 := Lib.hid (Tf0.out.keep br)
            replace Tf1 := Lib.hid (Tf1.out.keep br)
            replace Tu1 := Lib.hid (Tu1.out.keep br)
            replace Tu2 := Lib.hid (Tu2.out.keep br)
            replace Tu3 := Lib.hid (Tu3.out.keep br)
            clear br
            generalize (orL (x) [p]).length = n_u5 at *
            go_wp2_with fail
            have C := has8_any a_u5 n_u5 c_u5 (orL (x) [p]) p W7 Tu5.out
            rw [decide_eq_true (show p ∈ orL (x) [p] from mem_or.2 (.inr (List.mem_singleton.2 rfl)))] at C
            refine C.mono ?_
            clear C
            rintro e w' ⟨rfl, rfl⟩
            clear Tu5
            go_wp2_with fail
            refine (del8_any s0 n0 c0 (x) p W7 Tf0.out (by have h0 := Tf0.out.1; have g0 : (x).length ≤ 40 := (LX0.out.1); omega)).mono ?_
            intro e W8 hm
            obtain ⟨a_u6, c_u6, rfl, Tu6, br⟩ := hm.to
            clear hm
            replace Tu6 := Lib.hid Tu6
            replace B := Lib.hid (B.out.trans (br.mono B.out.size))
            replace Tf0 := Lib.hid (Tf0.out.keep br)
            replace Tf1 := Lib.hid (Tf1.out.keep br)
            replace Tu1 := Lib.hid (Tu1.out.keep br)
            replace Tu2 := Lib.hid (Tu2.out.keep br)
            replace Tu3 := Lib.hid (Tu3.out.keep br)
            clear br
            generalize (lessL (x) [p]).length = n_u6 at *
            go_wp2_with fail
            have C := has8_any a_u6 n_u6 c_u6 (lessL (x) [p]) p W8 Tu6.out
            rw [decide_eq_false (show ¬ p ∈ lessL (x) [p] from fun h => (mem_less.1 h).2 (List.mem_singleton.2 rfl))] at C
            refine C.mono ?_
            clear C
            rintro e w' ⟨rfl, rfl⟩
            clear Tu6
            go_wp2_with fail
            refine (eknown_any _).mono ?_
            rintro e W9 ⟨rfl, br⟩
            replace B := Lib.hid (B.out.trans (br.mono B.out.size))
            clear br
            go_wp2
            go_ret
            exact ⟨rfl, B.out⟩

          · have KY := Lib.hid ky
            clear ky
            go_enter Try.func4, Try.ntmps4
            have B := Lib.hid (Below.refl w.heap.size w)
            go_wp2_with fail
            have C := light8_any s0 n0 c0 (x) w Tf0.out S0.out
            rw [decide_eq_true LX0.out] at C
            refine C.mono ?_
            clear C
            rintro e w' ⟨rfl, rfl⟩
            go_wp2_with fail
            have C := light8_any s1 n1 c1 (y) w Tf1.out S1.out
            rw [decide_eq_true LX1.out] at C
            refine C.mono ?_
            clear C
            rintro e w' ⟨rfl, rfl⟩
            go_wp2_with fail
            have C := has8_any s0 n0 c0 (x) p w Tf0.out
            rw [decide_eq_true (show p ∈ x from KX.out)] at C
            refine C.mono ?_
            clear C
            rintro e w' ⟨rfl, rfl⟩
            go_wp2_with fail
            have C := has8_any s1 n1 c1 (y) p w Tf1.out
            rw [decide_eq_false (show ¬ p ∈ y from KY.out)] at C
            refine C.mono ?_
            clear C
            rintro e w' ⟨rfl, rfl⟩
            go_wp2_with fail
            refine (and8_any s0 n0 c0 (x) s1 n1 c1 (y) w Tf0.out Tf1.out (by have h0 := Tf0.out.1; have g0 : (x).length ≤ 40 := (LX0.out.1); have h1 := Tf1.out.1; have g1 : (y).length ≤ 40 := (LX1.out.1); omega)).mono ?_
            intro e W1 hm
            obtain ⟨a_u1, c_u1, rfl, Tu1, br⟩ := hm.to
            clear hm
            replace Tu1 := Lib.hid Tu1
            replace B := Lib.hid (B.out.trans (br.mono B.out.size))
            replace Tf0 := Lib.hid (Tf0.out.keep br)
            replace Tf1 := Lib.hid (Tf1.out.keep br)
            clear br
            generalize (andL (x) (y)).length = n_u1 at *
            go_wp2_with fail
            refine (or8_any s0 n0 c0 (x) s1 n1 c1 (y) W1 Tf0.out Tf1.out (by have h0 := Tf0.out.1; have g0 : (x).length ≤ 40 := (LX0.out.1); have h1 := Tf1.out.1; have g1 : (y).length ≤ 40 := (LX1.out.1); omega)).mono ?_
            intro e W2 hm
            obtain ⟨a_u2, c_u2, rfl, Tu2, br⟩ := hm.to
            clear hm
            replace Tu2 := Lib.hid Tu2
            replace B := Lib.hid (B.out.trans (br.mono B.out.size))
            replace Tf0 := Lib.hid (Tf0.out.keep br)
            replace Tf1 := Lib.hid (Tf1.out.keep br)
            replace Tu1 := Lib.hid (Tu1.out.keep br)
            clear br
            generalize (orL (x) (y)).length = n_u2 at *
            go_wp2_with fail
            refine (less8_any s0 n0 c0 (x) s1 n1 c1 (y) W2 Tf0.out Tf1.out (by have h0 := Tf0.out.1; have g0 : (x).length ≤ 40 := (LX0.out.1); have h1 := Tf1.out.1; have g1 : (y).length ≤ 40 := (LX1.out.1); omega)).mono ?_
            intro e W3 hm
            obtain ⟨a_u3, c_u3, rfl, Tu3, br⟩ := hm.to
            clear hm
            replace Tu3 := Lib.hid Tu3
            replace B := Lib.hid (B.out.trans (br.mono B.out.size))
            replace Tf0 := Lib.hid (Tf0.out.keep br)
            replace Tf1 := Lib.hid (Tf1.out.keep br)
            replace Tu1 := Lib.hid (Tu1.out.keep br)
            replace Tu2 := Lib.hid (Tu2.out.keep br)
            clear br
            generalize (lessL (x) (y)).length = n_u3 at *
            go_wp2_with fail
            have C := has8_any a_u1 n_u1 c_u1 (andL (x) (y)) p W3 Tu1.out
            rw [decide_eq_false (show ¬ p ∈ andL (x) (y) from fun h => KY.out (mem_and.1 h).2)] at C
            refine C.mono ?_
            clear C
            rintro e w' ⟨rfl, rfl⟩
            go_wp2_with fail
            have C := has8_any a_u2 n_u2 c_u2 (orL (x) (y)) p W3 Tu2.out
            rw [decide_eq_true (show p ∈ orL (x) (y) from mem_or.2 (.inl KX.out))] at C
            refine C.mono ?_
            clear C
            rintro e w' ⟨rfl, rfl⟩
            go_wp2_with fail
            have C := has8_any a_u3 n_u3 c_u3 (lessL (x) (y)) p W3 Tu3.out
            rw [decide_eq_true (show p ∈ lessL (x) (y) from mem_less.2 ⟨KX.out, KY.out⟩)] at C
            refine C.mono ?_
            clear C
            rintro e w' ⟨rfl, rfl⟩
            go_wp2_with fail
            have C := right8_any a_u1 n_u1 c_u1 (andL (x) (y)) W3 Tu1.out
            rw [decide_eq_true (show SS (andL (x) (y)) from take_ss ..)] at C
            refine C.mono ?_
            clear C
            rintro e W4 ⟨rfl, hd⟩
            have br := hd.bel
            clear hd
            replace B := Lib.hid (B.out.trans (br.mono B.out.size))
            replace Tf0 := Lib.hid (Tf0.out.keep br)
            replace Tf1 := Lib.hid (Tf1.out.keep br)
            replace Tu1 := Lib.hid (Tu1.out.keep br)
            replace Tu2 := Lib.hid (Tu2.out.keep br)
            replace Tu3 := Lib.hid (Tu3.out.keep br)
            clear br
            go_wp2_with fail
            have C := right8_any a_u2 n_u2 c_u2 (orL (x) (y)) W4 Tu2.out
            rw [decide_eq_true (show SS (orL (x) (y)) from take_ss ..)] at C
            refine C.mono ?_
            clear C
            rintro e W5 ⟨rfl, hd⟩
            have br := hd.bel
            clear hd
            replace B := Lib.hid (B.out.trans (br.mono B.out.size))
            replace Tf0 := Lib.hid (Tf0.out.keep br)
            replace Tf1 := Lib.hid (Tf1.out.keep br)
            replace Tu1 := Lib.hid (Tu1.out.keep br)
            replace Tu2 := Lib.hid (Tu2.out.keep br)
            replace Tu3 := Lib.hid (Tu3.out.keep br)
            clear br
            go_wp2_with fail
            have C := right8_any a_u3 n_u3 c_u3 (lessL (x) (y)) W5 Tu3.out
            rw [decide_eq_true (show SS (lessL (x) (y)) from take_ss ..)] at C
            refine C.mono ?_
            clear C
            rintro e W6 ⟨rfl, hd⟩
            have br := hd.bel
            clear hd
            replace B := Lib.hid (B.out.trans (br.mono B.out.size))
            replace Tf0 := Lib.hid (Tf0.out.keep br)
            replace Tf1 := Lib.hid (Tf1.out.keep br)
            replace Tu1 := Lib.hid (Tu1.out.keep br)
            replace Tu2 := Lib.hid (Tu2.out.keep br)
            replace Tu3 := Lib.hid (Tu3.out.keep br)
            clear br
            go_wp2_with fail
            refine (add8_any s0 n0 c0 (x) p W6 Tf0.out (by have h0 := Tf0.out.1; have g0 : (x).length ≤ 40 := (LX0.out.1); omega)).mono ?_
            intro e W7 hm
            obtain ⟨a_u5, c_u5, rfl, Tu5, br⟩ := hm.to
            clear hm
            replace Tu5 := Lib.hid Tu5
            replace B := Lib.hid (B.out.trans (br.mono B.out.size))
            replace Tf0 := Lib.hid (Tf0.out.keep br)
            replace Tf1 := Lib.hid (Tf1.out.keep br)
            replace Tu1 := Lib.hid (Tu1.out.keep br)
            replace Tu2 := Lib.hid (Tu2.out.keep br)
            replace Tu3 := Lib.hid (Tu3.out.keep br)
            clear br
            generalize (orL (x) [p]).length = n_u5 at *
            go_wp2_with fail
            have C := has8_any a_u5 n_u5 c_u5 (orL (x) [p]) p W7 Tu5.out
            rw [decide_eq_true (show p ∈ orL (x) [p] from mem_or.2 (.inr (List.mem_singleton.2 rfl)))] at C
            refine C.mono ?_
            clear C
            rintro e w' ⟨rfl, rfl⟩
            clear Tu5
            go_wp2_with fail
            refine (del8_any s0 n0 c0 (x) p W7 Tf0.out (by have h0 := Tf0.out.1; have g0 : (x).length ≤ 40 := (LX0.out.1); omega)).mono ?_
            intro e W8 hm
            obtain ⟨a_u6, c_u6, rfl, Tu6, br⟩ := hm.to
            clear hm
            replace Tu6 := Lib.hid Tu6
            replace B := Lib.hid (B.out.trans (br.mono B.out.size))
            replace Tf0 := Lib.hid (Tf0.out.keep br)
            replace Tf1 := Lib.hid (Tf1.out.keep br)
            replace Tu1 := Lib.hid (Tu1.out.keep br)
            replace Tu2 := Lib.hid (Tu2.out.keep br)
            replace Tu3 := Lib.hid (Tu3.out.keep br)
            clear br
            generalize (lessL (x) [p]).length = n_u6 at *
            go_wp2_with fail
            have C := has8_any a_u6 n_u6 c_u6 (lessL (x) [p]) p W8 Tu6.out
            rw [decide_eq_false (show ¬ p ∈ lessL (x) [p] from fun h => (mem_less.1 h).2 (List.mem_singleton.2 rfl))] at C
            refine C.mono ?_
            clear C
            rintro e w' ⟨rfl, rfl⟩
            clear Tu6
            go_wp2_with fail
            refine (eknown_any _).mono ?_
            rintro e W9 ⟨rfl, br⟩
            replace B := Lib.hid (B.out.trans (br.mono B.out.size))
            clear br
            go_wp2
            go_ret
            exact ⟨rfl, B.out⟩

        · have KX := Lib.hid kx
          clear kx
          by_cases ky : p ∈ y
          · have KY := Lib.hid ky
            clear ky
            go_enter Try.func4, Try.ntmps4
            have B := Lib.hid (Below.refl w.heap.size w)
            go_wp2_with fail
            have C := light8_any s0 n0 c0 (x) w Tf0.out S0.out
            rw [decide_eq_true LX0.out] at C
            refine C.mono ?_
            clear C
            rintro e w' ⟨rfl, rfl⟩
            go_wp2_with fail
            have C := light8_any s1 n1 c1 (y) w Tf1.out S1.out
            rw [decide_eq_true LX1.out] at C
            refine C.mono ?_
            clear C
            rintro e w' ⟨rfl, rfl⟩
            go_wp2_with fail
            have C := has8_any s0 n0 c0 (x) p w Tf0.out
            rw [decide_eq_false (show ¬ p ∈ x from KX.out)] at C
            refine C.mono ?_
            clear C
            rintro e w' ⟨rfl, rfl⟩
            go_wp2_with fail
            have C := has8_any s1 n1 c1 (y) p w Tf1.out
            rw [decide_eq_true (show p ∈ y from KY.out)] at C
            refine C.mono ?_
            clear C
            rintro e w' ⟨rfl, rfl⟩
            go_wp2_with fail
            refine (and8_any s0 n0 c0 (x) s1 n1 c1 (y) w Tf0.out Tf1.out (by have h0 := Tf0.out.1; have g0 : (x).length ≤ 40 := (LX0.out.1); have h1 := Tf1.out.1; have g1 : (y).length ≤ 40 := (LX1.out.1); omega)).mono ?_
            intro e W1 hm
            obtain ⟨a_u1, c_u1, rfl, Tu1, br⟩ := hm.to
            clear hm
            replace Tu1 := Lib.hid Tu1
            replace B := Lib.hid (B.out.trans (br.mono B.out.size))
            replace Tf0 := Lib.hid (Tf0.out.keep br)
            replace Tf1 := Lib.hid (Tf1.out.keep br)
            clear br
            generalize (andL (x) (y)).length = n_u1 at *
            go_wp2_with fail
            refine (or8_any s0 n0 c0 (x) s1 n1 c1 (y) W1 Tf0.out Tf1.out (by have h0 := Tf0.out.1; have g0 : (x).length ≤ 40 := (LX0.out.1); have h1 := Tf1.out.1; have g1 : (y).length ≤ 40 := (LX1.out.1); omega)).mono ?_
            intro e W2 hm
            obtain ⟨a_u2, c_u2, rfl, Tu2, br⟩ := hm.to
            clear hm
            replace Tu2 := Lib.hid Tu2
            replace B := Lib.hid (B.out.trans (br.mono B.out.size))
            replace Tf0 := Lib.hid (Tf0.out.keep br)
            replace Tf1 := Lib.hid (Tf1.out.keep br)
            replace Tu1 := Lib.hid (Tu1.out.keep br)
            clear br
            generalize (orL (x) (y)).length = n_u2 at *
            go_wp2_with fail
            refine (less8_any s0 n0 c0 (x) s1 n1 c1 (y) W2 Tf0.out Tf1.out (by have h0 := Tf0.out.1; have g0 : (x).length ≤ 40 := (LX0.out.1); have h1 := Tf1.out.1; have g1 : (y).length ≤ 40 := (LX1.out.1); omega)).mono ?_
            intro e W3 hm
            obtain ⟨a_u3, c_u3, rfl, Tu3, br⟩ := hm.to
            clear hm
            replace Tu3 := Lib.hid Tu3
            replace B := Lib.hid (B.out.trans (br.mono B.out.size))
            replace Tf0 := Lib.hid (Tf0.out.keep br)
            replace Tf1 := Lib.hid (Tf1.out.keep br)
            replace Tu1 := Lib.hid (Tu1.out.keep br)
            replace Tu2 := Lib.hid (Tu2.out.keep br)
            clear br
            generalize (lessL (x) (y)).length = n_u3 at *
            go_wp2_with fail
            have C := has8_any a_u1 n_u1 c_u1 (andL (x) (y)) p W3 Tu1.out
            rw [decide_eq_false (show ¬ p ∈ andL (x) (y) from fun h => KX.out (mem_and.1 h).1)] at C
            refine C.mono ?_
            clear C
            rintro e w' ⟨rfl, rfl⟩
            go_wp2_with fail
            have C := has8_any a_u2 n_u2 c_u2 (orL (x) (y)) p W3 Tu2.out
            rw [decide_eq_true (show p ∈ orL (x) (y) from mem_or.2 (.inr KY.out))] at C
            refine C.mono ?_
            clear C
            rintro e w' ⟨rfl, rfl⟩
            go_wp2_with fail
            have C := has8_any a_u3 n_u3 c_u3 (lessL (x) (y)) p W3 Tu3.out
            rw [decide_eq_false (show ¬ p ∈ lessL (x) (y) from fun h => KX.out (mem_less.1 h).1)] at C
            refine C.mono ?_
            clear C
            rintro e w' ⟨rfl, rfl⟩
            go_wp2_with fail
            have C := right8_any a_u1 n_u1 c_u1 (andL (x) (y)) W3 Tu1.out
            rw [decide_eq_true (show SS (andL (x) (y)) from take_ss ..)] at C
            refine C.mono ?_
            clear C
            rintro e W4 ⟨rfl, hd⟩
            have br := hd.bel
            clear hd
            replace B := Lib.hid (B.out.trans (br.mono B.out.size))
            replace Tf0 := Lib.hid (Tf0.out.keep br)
            replace Tf1 := Lib.hid (Tf1.out.keep br)
            replace Tu1 := Lib.hid (Tu1.out.keep br)
            replace Tu2 := Lib.hid (Tu2.out.keep br)
            replace Tu3 := Lib.hid (Tu3.out.keep br)
            clear br
            go_wp2_with fail
            have C := right8_any a_u2 n_u2 c_u2 (orL (x) (y)) W4 Tu2.out
            rw [decide_eq_true (show SS (orL (x) (y)) from take_ss ..)] at C
            refine C.mono ?_
            clear C
            rintro e W5 ⟨rfl, hd⟩
            have br := hd.bel
            clear hd
            replace B := Lib.hid (B.out.trans (br.mono B.out.size))
            replace Tf0 := Lib.hid (Tf0.out.keep br)
            replace Tf1 := Lib.hid (Tf1.out.keep br)
            replace Tu1 := Lib.hid (Tu1.out.keep br)
            replace Tu2 := Lib.hid (Tu2.out.keep br)
            replace Tu3 := Lib.hid (Tu3.out.keep br)
            clear br
            go_wp2_with fail
            have C := right8_any a_u3 n_u3 c_u3 (lessL (x) (y)) W5 Tu3.out
            rw [decide_eq_true (show SS (lessL (x) (y)) from take_ss ..)] at C
            refine C.mono ?_
            clear C
            rintro e W6 ⟨rfl, hd⟩
            have br := hd.bel
            clear hd
            replace B := Lib.hid (B.out.trans (br.mono B.out.size))
            replace Tf0 := Lib.hid (Tf0.out.keep br)
            replace Tf1 := Lib.hid (Tf1.out.keep br)
            replace Tu1 := Lib.hid (Tu1.out.keep br)
            replace Tu2 := Lib.hid (Tu2.out.keep br)
            replace Tu3 := Lib.hid (Tu3.out.keep br)
            clear br
            go_wp2_with fail
            refine (add8_any s0 n0 c0 (x) p W6 Tf0.out (by have h0 := Tf0.out.1; have g0 : (x).length ≤ 40 := (LX0.out.1); omega)).mono ?_
            intro e W7 hm
            obtain ⟨a_u5, c_u5, rfl, Tu5, br⟩ := hm.to
            clear hm
            replace Tu5 := Lib.hid Tu5
            replace B := Lib.hid (B.out.trans (br.mono B.out.size))
            replace Tf0 := Lib.hid (Tf0.out.keep br)
            replace Tf1 := Lib.hid (Tf1.out.keep br)
            replace Tu1 := Lib.hid (Tu1.out.keep br)
            replace Tu2 := Lib.hid (Tu2.out.keep br)
            replace Tu3 := Lib.hid (Tu3.out.keep br)
            clear br
            generalize (orL (x) [p]).length = n_u5 at *
            go_wp2_with fail
            have C := has8_any a_u5 n_u5 c_u5 (orL (x) [p]) p W7 Tu5.out
            rw [decide_eq_true (show p ∈ orL (x) [p] from mem_or.2 (.inr (List.mem_singleton.2 rfl)))] at C
            refine C.mono ?_
            clear C
            rintro e w' ⟨rfl, rfl⟩
            clear Tu5
            go_wp2_with fail
            refine (del8_any s0 n0 c0 (x) p W7 Tf0.out (by have h0 := Tf0.out.1; have g0 : (x).length ≤ 40 := (LX0.out.1); omega)).mono ?_
            intro e W8 hm
            obtain ⟨a_u6, c_u6, rfl, Tu6, br⟩ := hm.to
            clear hm
            replace Tu6 := Lib.hid Tu6
            replace B := Lib.hid (B.out.trans (br.mono B.out.size))
            replace Tf0 := Lib.hid (Tf0.out.keep br)
            replace Tf1 := Lib.hid (Tf1.out.keep br)
            replace Tu1 := Lib.hid (Tu1.out.keep br)
            replace Tu2 := Lib.hid (Tu2.out.keep br)
            replace Tu3 := Lib.hid (Tu3.out.keep br)
            clear br
            generalize (lessL (x) [p]).length = n_u6 at *
            go_wp2_with fail
            have C := has8_any a_u6 n_u6 c_u6 (lessL (x) [p]) p W8 Tu6.out
            rw [decide_eq_false (show ¬ p ∈ lessL (x) [p] from fun h => (mem_less.1 h).2 (List.mem_singleton.2 rfl))] at C
            refine C.mono ?_
            clear C
            rintro e w' ⟨rfl, rfl⟩
            clear Tu6
            go_wp2_with fail
            refine (eknown_any _).mono ?_
            rintro e W9 ⟨rfl, br⟩
            replace B := Lib.hid (B.out.trans (br.mono B.out.size))
            clear br
            go_wp2
            go_ret
            exact ⟨rfl, B.out⟩

          · have KY := Lib.hid ky
            clear ky
            go_enter Try.func4, Try.ntmps4
            have B := Lib.hid (Below.refl w.heap.size w)
            go_wp2_with fail
            have C := light8_any s0 n0 c0 (x) w Tf0.out S0.out
            rw [decide_eq_true LX0.out] at C
            refine C.mono ?_
            clear C
            rintro e w' ⟨rfl, rfl⟩
            go_wp2_with fail
            have C := light8_any s1 n1 c1 (y) w Tf1.out S1.out
            rw [decide_eq_true LX1.out] at C
            refine C.mono ?_
            clear C
            rintro e w' ⟨rfl, rfl⟩
            go_wp2_with fail
            have C := has8_any s0 n0 c0 (x) p w Tf0.out
            rw [decide_eq_false (show ¬ p ∈ x from KX.out)] at C
            refine C.mono ?_
            clear C
            rintro e w' ⟨rfl, rfl⟩
            go_wp2_with fail
            have C := has8_any s1 n1 c1 (y) p w Tf1.out
            rw [decide_eq_false (show ¬ p ∈ y from KY.out)] at C
            refine C.mono ?_
            clear C
            rintro e w' ⟨rfl, rfl⟩
            go_wp2_with fail
            refine (and8_any s0 n0 c0 (x) s1 n1 c1 (y) w Tf0.out Tf1.out (by have h0 := Tf0.out.1; have g0 : (x).length ≤ 40 := (LX0.out.1); have h1 := Tf1.out.1; have g1 : (y).length ≤ 40 := (LX1.out.1); omega)).mono ?_
            intro e W1 hm
            obtain ⟨a_u1, c_u1, rfl, Tu1, br⟩ := hm.to
            clear hm
            replace Tu1 := Lib.hid Tu1
            replace B := Lib.hid (B.out.trans (br.mono B.out.size))
            replace Tf0 := Lib.hid (Tf0.out.keep br)
            replace Tf1 := Lib.hid (Tf1.out.keep br)
            clear br
            generalize (andL (x) (y)).length = n_u1 at *
            go_wp2_with fail
            refine (or8_any s0 n0 c0 (x) s1 n1 c1 (y) W1 Tf0.out Tf1.out (by have h0 := Tf0.out.1; have g0 : (x).length ≤ 40 := (LX0.out.1); have h1 := Tf1.out.1; have g1 : (y).length ≤ 40 := (LX1.out.1); omega)).mono ?_
            intro e W2 hm
            obtain ⟨a_u2, c_u2, rfl, Tu2, br⟩ := hm.to
            clear hm
            replace Tu2 := Lib.hid Tu2
            replace B := Lib.hid (B.out.trans (br.mono B.out.size))
            replace Tf0 := Lib.hid (Tf0.out.keep br)
            replace Tf1 := Lib.hid (Tf1.out.keep br)
            replace Tu1 := Lib.hid (Tu1.out.keep br)
            clear br
            generalize (orL (x) (y)).length = n_u2 at *
            go_wp2_with fail
            refine (less8_any s0 n0 c0 (x) s1 n1 c1 (y) W2 Tf0.out Tf1.out (by have h0 := Tf0.out.1; have g0 : (x).length ≤ 40 := (LX0.out.1); have h1 := Tf1.out.1; have g1 : (y).length ≤ 40 := (LX1.out.1); omega)).mono ?_
            intro e W3 hm
            obtain ⟨a_u3, c_u3, rfl, Tu3, br⟩ := hm.to
            clear hm
            replace Tu3 := Lib.hid Tu3
            replace B := Lib.hid (B.out.trans (br.mono B.out.size))
            replace Tf0 := Lib.hid (Tf0.out.keep br)
            replace Tf1 := Lib.hid (Tf1.out.keep br)
            replace Tu1 := Lib.hid (Tu1.out.keep br)
            replace Tu2 := Lib.hid (Tu2.out.keep br)
            clear br
            generalize (lessL (x) (y)).length = n_u3 at *
            go_wp2_with fail
            have C := has8_any a_u1 n_u1 c_u1 (andL (x) (y)) p W3 Tu1.out
            rw [decide_eq_false (show ¬ p ∈ andL (x) (y) from fun h => KX.out (mem_and.1 h).1)] at C
            refine C.mono ?_
            clear C
            rintro e w' ⟨rfl, rfl⟩
            go_wp2_with fail
            have C := has8_any a_u2 n_u2 c_u2 (orL (x) (y)) p W3 Tu2.out
            rw [decide_eq_false (show ¬ p ∈ orL (x) (y) from fun h => (mem_or.1 h).elim KX.out KY.out)] at C
            refine C.mono ?_
            clear C
            rintro e w' ⟨rfl, rfl⟩
            go_wp2_with fail
            have C := has8_any a_u3 n_u3 c_u3 (lessL (x) (y)) p W3 Tu3.out
            rw [decide_eq_false (show ¬ p ∈ lessL (x) (y) from fun h => KX.out (mem_less.1 h).1)] at C
            refine C.mono ?_
            clear C
            rintro e w' ⟨rfl, rfl⟩
            go_wp2_with fail
            have C := right8_any a_u1 n_u1 c_u1 (andL (x) (y)) W3 Tu1.out
            rw [decide_eq_true (show SS (andL (x) (y)) from take_ss ..)] at C
            refine C.mono ?_
            clear C
            rintro e W4 ⟨rfl, hd⟩
            have br := hd.bel
            clear hd
            replace B := Lib.hid (B.out.trans (br.mono B.out.size))
            replace Tf0 := Lib.hid (Tf0.out.keep br)
            replace Tf1 := Lib.hid (Tf1.out.keep br)
            replace Tu1 := Lib.hid (Tu1.out.keep br)
            replace Tu2 := Lib.hid (Tu2.out.keep br)
            replace Tu3 := Lib.hid (Tu3.out.keep br)
            clear br
            go_wp2_with fail
            have C := right8_any a_u2 n_u2 c_u2 (orL (x) (y)) W4 Tu2.out
            rw [decide_eq_true (show SS (orL (x) (y)) from take_ss ..)] at C
            refine C.mono ?_
            clear C
            rintro e W5 ⟨rfl, hd⟩
            have br := hd.bel
            clear hd
            replace B := Lib.hid (B.out.trans (br.mono B.out.size))
            replace Tf0 := Lib.hid (Tf0.out.keep br)
            replace Tf1 := Lib.hid (Tf1.out.keep br)
            replace Tu1 := Lib.hid (Tu1.out.keep br)
            replace Tu2 := Lib.hid (Tu2.out.keep br)
            replace Tu3 := Lib.hid (Tu3.out.keep br)
            clear br
            go_wp2_with fail
            have C := right8_any a_u3 n_u3 c_u3 (lessL (x) (y)) W5 Tu3.out
            rw [decide_eq_true (show SS (lessL (x) (y)) from take_ss ..)] at C
            refine C.mono ?_
            clear C
            rintro e W6 ⟨rfl, hd⟩
            have br := hd.bel
            clear hd
            replace B := Lib.hid (B.out.trans (br.mono B.out.size))
            replace Tf0 := Lib.hid (Tf0.out.keep br)
            replace Tf1 := Lib.hid (Tf1.out.keep br)
            replace Tu1 := Lib.hid (Tu1.out.keep br)
            replace Tu2 := Lib.hid (Tu2.out.keep br)
            replace Tu3 := Lib.hid (Tu3.out.keep br)
            clear br
            go_wp2_with fail
            refine (add8_any s0 n0 c0 (x) p W6 Tf0.out (by have h0 := Tf0.out.1; have g0 : (x).length ≤ 40 := (LX0.out.1); omega)).mono ?_
            intro e W7 hm
            obtain ⟨a_u5, c_u5, rfl, Tu5, br⟩ := hm.to
            clear hm
            replace Tu5 := Lib.hid Tu5
            replace B := Lib.hid (B.out.trans (br.mono B.out.size))
            replace Tf0 := Lib.hid (Tf0.out.keep br)
            replace Tf1 := Lib.hid (Tf1.out.keep br)
            replace Tu1 := Lib.hid (Tu1.out.keep br)
            replace Tu2 := Lib.hid (Tu2.out.keep br)
            replace Tu3 := Lib.hid (Tu3.out.keep br)
            clear br
            generalize (orL (x) [p]).length = n_u5 at *
            go_wp2_with fail
            have C := has8_any a_u5 n_u5 c_u5 (orL (x) [p]) p W7 Tu5.out
            rw [decide_eq_true (show p ∈ orL (x) [p] from mem_or.2 (.inr (List.mem_singleton.2 rfl)))] at C
            refine C.mono ?_
            clear C
            rintro e w' ⟨rfl, rfl⟩
            clear Tu5
            go_wp2_with fail
            refine (del8_any s0 n0 c0 (x) p W7 Tf0.out (by have h0 := Tf0.out.1; have g0 : (x).length ≤ 40 := (LX0.out.1); omega)).mono ?_
            intro e W8 hm
            obtain ⟨a_u6, c_u6, rfl, Tu6, br⟩ := hm.to
            clear hm
            replace Tu6 := Lib.hid Tu6
            replace B := Lib.hid (B.out.trans (br.mono B.out.size))
            replace Tf0 := Lib.hid (Tf0.out.keep br)
            replace Tf1 := Lib.hid (Tf1.out.keep br)
            replace Tu1 := Lib.hid (Tu1.out.keep br)
            replace Tu2 := Lib.hid (Tu2.out.keep br)
            replace Tu3 := Lib.hid (Tu3.out.keep br)
            clear br
            generalize (lessL (x) [p]).length = n_u6 at *
            go_wp2_with fail
            have C := has8_any a_u6 n_u6 c_u6 (lessL (x) [p]) p W8 Tu6.out
            rw [decide_eq_false (show ¬ p ∈ lessL (x) [p] from fun h => (mem_less.1 h).2 (List.mem_singleton.2 rfl))] at C
            refine C.mono ?_
            clear C
            rintro e w' ⟨rfl, rfl⟩
            clear Tu6
            go_wp2_with fail
            refine (eknown_any _).mono ?_
            rintro e W9 ⟨rfl, br⟩
            replace B := Lib.hid (B.out.trans (br.mono B.out.size))
            clear br
            go_wp2
            go_ret
            exact ⟨rfl, B.out⟩

      · have lz : (100 : Int) < (m : Int) := by omega
        go_enter Try.func4, Try.ntmps4
        have B := Lib.hid (Below.refl w.heap.size w)
        go_wp2_with fail
        have C := light8_any s0 n0 c0 (x) w Tf0.out S0.out
        rw [decide_eq_true LX0.out] at C
        refine C.mono ?_
        clear C
        rintro e w' ⟨rfl, rfl⟩
        go_wp2_with fail
        have C := light8_any s1 n1 c1 (y) w Tf1.out S1.out
        rw [decide_eq_true LX1.out] at C
        refine C.mono ?_
        clear C
        rintro e w' ⟨rfl, rfl⟩
        go_wp2_with fail
        refine (eknown_any _).mono ?_
        rintro e W1 ⟨rfl, br⟩
        replace B := Lib.hid (B.out.trans (br.mono B.out.size))
        clear br
        go_wp2
        go_ret
        exact ⟨rfl, B.out⟩

    · have LX1 := Lib.hid lx1
      clear lx1
      go_enter Try.func4, Try.ntmps4
      have B := Lib.hid (Below.refl w.heap.size w)
      go_wp2_with fail
      have C := light8_any s0 n0 c0 (x) w Tf0.out S0.out
      rw [decide_eq_true LX0.out] at C
      refine C.mono ?_
      clear C
      rintro e w' ⟨rfl, rfl⟩
      go_wp2_with fail
      have C := light8_any s1 n1 c1 (y) w Tf1.out S1.out
      rw [decide_eq_false LX1.out] at C
      refine C.mono ?_
      clear C
      rintro e w' ⟨rfl, rfl⟩
      go_wp2_with fail
      refine (eknown_any _).mono ?_
      rintro e W1 ⟨rfl, br⟩
      replace B := Lib.hid (B.out.trans (br.mono B.out.size))
      clear br
      go_wp2
      go_ret
      exact ⟨rfl, B.out⟩

  · have LX0 := Lib.hid lx0
    clear lx0
    go_enter Try.func4, Try.ntmps4
    have B := Lib.hid (Below.refl w.heap.size w)
    go_wp2_with fail
    have C := light8_any s0 n0 c0 (x) w Tf0.out S0.out
    rw [decide_eq_false LX0.out] at C
    refine C.mono ?_
    clear C
    rintro e w' ⟨rfl, rfl⟩
    go_wp2_with fail
    refine (eknown_any _).mono ?_
    rintro e W1 ⟨rfl, br⟩
    replace B := Lib.hid (B.out.trans (br.mono B.out.size))
    clear br
    go_wp2
    go_ret
    exact ⟨rfl, B.out⟩

theorem walk (s0 : Option Addr) (n0 c0 : Nat) (x : List Tx) (s1 : Option Addr) (n1 c1 : Nat) (y : List Tx) (t : ByteArray) (w : World) (h0 : TxAt w s0 n0 c0 x ∧ Sh x) (h1 : TxAt w s1 n1 c1 y ∧ Sh y) (ht : t.size ≤ maxLen) :
    Calls Try.prog 4 #[.slice s0 n0 c0, .slice s1 n1 c1, .string t] w fun e w' => e = .returned (.bool true) ∧ Below w.heap.size w w' := by
  obtain ⟨p, rfl⟩ : ∃ p, t = bs p := ⟨tx t, (bs_tx t).symm⟩
  exact walk0 s0 n0 c0 x s1 n1 c1 y p w h0 h1 (by rw [bs_size] at ht; unfold maxLen at ht; omega)

set_option maxRecDepth 100000 in
theorem lifted (os : Os) (started : os.Started) (H : Type) (enc : TypeId × Value → H) :
    ReturnsInHanded {} Try.checked os 4 .any (Rows.setsHaveSpec.pre6 enc Try.prog Try.f4 Rows.setsHaveRow.domain false) (Rows.setsHaveSpec.post enc Try.prog Try.f4 false true false false) := by
  refine returnsInHanded_of_change (C := Try.checked) own started (by kernel_rfl) Try.func4
    (ChangeSpec.witness6 (enc := enc) (C := Try.checked) false ⟨#[], #[.slice none 0 0, .slice none 0 0, .string ByteArray.empty], []⟩ 8 (by kernel_rfl) (by kernel_rfl) (by kernel_rfl) (by kernel_rfl)) ?_
  intro W base args ds gs before hval0 hW hcnd _
  have hval : ∀ (j : Nat) t v, Try.f4.params[j]? = some t → args[j]? = some v → Value.okWide Try.prog W .any base t v := hval0
  have hW' := hW
  obtain ⟨p, q, hA0, hV, rfl, hfz, hnd⟩ := hW
  have hA : DataW.TrodAll enc Try.prog W 0 (fun _ => true) true Try.f4.params.toList args.toList ds p := hA0
  rw [Try.params4] at hA hval
  obtain ⟨v0, vs0, d0, ds0, p0, q0, hargs, rfl, rfl, h0, r0⟩ := trodAll_cons hA
  obtain ⟨v1, vs1, d1, ds1, p1, q1, rfl, rfl, rfl, h1, r1⟩ := trodAll_cons r0
  obtain ⟨v2, vs2, d2, ds2, p2, q2, rfl, rfl, rfl, h2, r2⟩ := trodAll_cons r1
  obtain ⟨rfl, rfl, rfl⟩ := trodAll_nil r2
  obtain rfl : args = #[v0, v1, v2] := by cases args; simp_all
  obtain ⟨rfl, rfl⟩ := trodVars_none hV
  obtain ⟨a0, len0, cap0, rfl⟩ := okWide_slice Try.underlying22 (hval 0 22 v0 rfl rfl)
  have k0 := h0
  have lt0 : ∀ x ∈ p0, x.block < W.heap.size := by obtain ⟨m, hm⟩ := k0; exact DataW.trod_lt m _ _ _ hm
  obtain ⟨z0, w0⟩ := open_strs h0
  obtain ⟨a1, len1, cap1, rfl⟩ := okWide_slice Try.underlying22 (hval 1 22 v1 rfl rfl)
  have k1 := h1
  have lt1 : ∀ x ∈ p1, x.block < W.heap.size := by obtain ⟨m, hm⟩ := k1; exact DataW.trod_lt m _ _ _ hm
  obtain ⟨z1, w1⟩ := open_strs h1
  obtain ⟨a2, rfl, rfl, rfl, w2⟩ := open_string Try.underlying9 (hval 2 9 v2 rfl rfl) h2
  clear hA0 hval0
  refine (walk a0 len0 cap0 z0 a1 len1 cap1 z1 a2 W w0 w1 w2).mono fun e W' ⟨he, bel⟩ => ?_
  subst he
  exact ⟨_, rfl, _, _, _, [], _, [], hW', trodAll_mk1 (shut_bool Try.underlying4 _), (trodAll_cons_mk (Below.trod laidOut (by kernel_rfl) (of_decide_eq_true (by kernel_rfl)) k0 bel lt0) (trodAll_cons_mk (Below.trod laidOut (by kernel_rfl) (of_decide_eq_true (by kernel_rfl)) k1 bel lt1) (trodAll_cons_mk (shut_string Try.underlying9 w2) trodAll_mk0))), rfl, bel.frame _, fun h => by cases h⟩

theorem over : Rows.setsHaveRow.holds Try.pinned (OpenSpec.ofChange Rows.setsHaveSpec) :=
  OpenClaim.holds_of_wide 4 Try.f4 rfl rfl rfl rfl rfl rfl rfl ⟨rfl, rfl, rfl, rfl, rfl⟩ rfl rfl rfl rfl rfl (by kernel_rfl) Try.func4 (by kernel_rfl)
    (of_decide_eq_true (by kernel_rfl)) (by unfold Func.isWrapper; first | (rw [if_pos (by decide +kernel)]; kernel_rfl) | (rw [if_neg (by decide +kernel)]; exact ⟨rfl, rfl⟩))
    (fun os started H enc _ => lifted os started H enc)

theorem proved : Rows.SetsHaveSaid := over
end setsHave
theorem setsHave_holds : Rows.SetsHaveSaid := setsHave.proved
#print axioms setsHave_holds
end Go.Proofs.Ytjpighkbfldloaa
