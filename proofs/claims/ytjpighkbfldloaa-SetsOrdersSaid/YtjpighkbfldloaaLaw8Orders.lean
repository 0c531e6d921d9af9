/-
  The statement 'SetsOrders' of layer 8: And and Or may be done in any order; And of an Or is the Or of two Ands; what is in one is in And, or in Less, not in both.
  No condition on the arguments.
-/
import Derived.Test.YtjpighkbfldloaaEKnown
import Derived.Test.YtjpighkbfldloaaEArgs
import Derived.Test.YtjpighkbfldloaaRows
import Derived.ChangeOld
namespace Go.Proofs.Ytjpighkbfldloaa
namespace setsOrders
open Go.ChangeShapes Go.WideShapes Go.ChangeAt Go.RowKit
open Go.ChangeMaps (open_string shut_string)
set_option linter.unusedVariables false
set_option linter.unusedSimpArgs false

theorem own : ownKnob Try.prog.godebug = none := by kernel_rfl


theorem and_or (x y z : List Tx) : andL x (orL y z) = orL (andL x y) (andL x z) := ss_ext (take_ss ..) (take_ss ..) (fun u => by rw [mem_and, mem_or, mem_or, mem_and, mem_and]; exact and_or_left)
theorem less_or (x y z : List Tx) : lessL x (orL y z) = lessL (lessL x y) z := ss_ext (take_ss ..) (take_ss ..) (fun u => by rw [mem_less, mem_or, mem_less, mem_less, not_or, and_assoc])
theorem or_parts (x y : List Tx) : orL (andL x y) (lessL x y) = canon x := ss_ext (take_ss ..) (canon_ss x) (fun u => by
  rw [mem_or, mem_and, mem_less, mem_canon]
  by_cases h : u ∈ y <;> simp [h])
theorem and_parts (x y : List Tx) : andL (andL x y) (lessL x y) = [] := ss_ext (take_ss ..) ss_nil (fun u => by
  rw [mem_and, mem_and, mem_less]
  simp
  intro _ h _; exact h)

set_option maxRecDepth 100000 in
set_option maxHeartbeats 16000000 in
theorem walk0 (s0 : Option Addr) (n0 c0 : Nat) (x : List Tx) (s1 : Option Addr) (n1 c1 : Nat) (y : List Tx) (s2 : Option Addr) (n2 c2 : Nat) (z : List Tx) (w : World) (h0 : TxAt w s0 n0 c0 x ∧ Sh x) (h1 : TxAt w s1 n1 c1 y ∧ Sh y) (h2 : TxAt w s2 n2 c2 z ∧ Sh z) :
    Calls Try.prog 5 #[.slice s0 n0 c0, .slice s1 n1 c1, .slice s2 n2 c2] w fun e w' => e = .returned (.bool true) ∧ Below w.heap.size w w' := by
  have Tf0 := Lib.hid h0.1
  have S0 := Lib.hid h0.2
  clear h0
  have Tf1 := Lib.hid h1.1
  have S1 := Lib.hid h1.2
  clear h1
  have Tf2 := Lib.hid h2.1
  have S2 := Lib.hid h2.2
  clear h2
  by_cases lx0 : lightL x
  · have LX0 := Lib.hid lx0
    clear lx0
    by_cases lx1 : lightL y
    · have LX1 := Lib.hid lx1
      clear lx1
      by_cases lx2 : lightL z
      · have LX2 := Lib.hid lx2
        clear lx2
        go_enter Try.func5, Try.ntmps5
        have B := Lib.hid (Below.refl w.heap.size w)
        go_wp2_with fail
        have C := light8_any s0 n0 c0 (x) w Tf0.out S0.out
        rw [decide_eq_true LX0.out] at C
        refine C.mono ?_
        clear C
        rintro e w' ⟨rfl, rfl⟩
        go_wp2_with fail
        have C := light8_any s1 n1 c1 (y) w Tf1.out S1.out
        rw [decide_eq_true LX1.out] at C
        refine C.mono ?_
        clear C
        rintro e w' ⟨rfl, rfl⟩
        go_wp2_with fail
        have C := light8_any s2 n2 c2 (z) w Tf2.out S2.out
        rw [decide_eq_true LX2.out] at C
        refine C.mono ?_
        clear C
        rintro e w' ⟨rfl, rfl⟩
        go_wp2_with fail
        refine (or8_any s1 n1 c1 (y) s2 n2 c2 (z) w Tf1.out Tf2.out (by have h0 := Tf1.out.1; have g0 : (y).length ≤ 40 := (LX1.out.1); have h1 := Tf2.out.1; have g1 : (z).length ≤ 40 := (LX2.out.1); omega)).mono ?_
        intro e W1 hm
        obtain ⟨a_o, c_o, rfl, To, br⟩ := hm.to
        clear hm
        replace To := Lib.hid To
        replace B := Lib.hid (B.out.trans (br.mono B.out.size))
        replace Tf0 := Lib.hid (Tf0.out.keep br)
        replace Tf1 := Lib.hid (Tf1.out.keep br)
        replace Tf2 := Lib.hid (Tf2.out.keep br)
        clear br
        generalize (orL (y) (z)).length = n_o at *
        go_wp2_with fail
        refine (and8_any s0 n0 c0 (x) a_o n_o c_o (orL (y) (z)) W1 Tf0.out To.out (by have h0 := Tf0.out.1; have g0 : (x).length ≤ 40 := (LX0.out.1); have h1 := To.out.1; have g1 : (orL (y) (z)).length ≤ 80 := (Nat.le_trans (take_len ..) (Nat.add_le_add (LX1.out.1) (LX2.out.1))); omega)).mono ?_
        intro e W2 hm
        obtain ⟨a_X, c_X, rfl, TX, br⟩ := hm.to
        clear hm
        replace TX := Lib.hid TX
        replace B := Lib.hid (B.out.trans (br.mono B.out.size))
        replace Tf0 := Lib.hid (Tf0.out.keep br)
        replace Tf1 := Lib.hid (Tf1.out.keep br)
        replace Tf2 := Lib.hid (Tf2.out.keep br)
        replace To := Lib.hid (To.out.keep br)
        clear br
        generalize (andL (x) (orL (y) (z))).length = n_X at *
        clear To
        go_wp2_with fail
        refine (and8_any s0 n0 c0 (x) s1 n1 c1 (y) W2 Tf0.out Tf1.out (by have h0 := Tf0.out.1; have g0 : (x).length ≤ 40 := (LX0.out.1); have h1 := Tf1.out.1; have g1 : (y).length ≤ 40 := (LX1.out.1); omega)).mono ?_
        intro e W3 hm
        obtain ⟨a_u1, c_u1, rfl, Tu1, br⟩ := hm.to
        clear hm
        replace Tu1 := Lib.hid Tu1
        replace B := Lib.hid (B.out.trans (br.mono B.out.size))
        replace Tf0 := Lib.hid (Tf0.out.keep br)
        replace Tf1 := Lib.hid (Tf1.out.keep br)
        replace Tf2 := Lib.hid (Tf2.out.keep br)
        replace TX := Lib.hid (TX.out.keep br)
        clear br
        generalize (andL (x) (y)).length = n_u1 at *
        go_wp2_with fail
        refine (and8_any s0 n0 c0 (x) s2 n2 c2 (z) W3 Tf0.out Tf2.out (by have h0 := Tf0.out.1; have g0 : (x).length ≤ 40 := (LX0.out.1); have h1 := Tf2.out.1; have g1 : (z).length ≤ 40 := (LX2.out.1); omega)).mono ?_
        intro e W4 hm
        obtain ⟨a_v1, c_v1, rfl, Tv1, br⟩ := hm.to
        clear hm
        replace Tv1 := Lib.hid Tv1
        replace B := Lib.hid (B.out.trans (br.mono B.out.size))
        replace Tf0 := Lib.hid (Tf0.out.keep br)
        replace Tf1 := Lib.hid (Tf1.out.keep br)
        replace Tf2 := Lib.hid (Tf2.out.keep br)
        replace TX := Lib.hid (TX.out.keep br)
        replace Tu1 := Lib.hid (Tu1.out.keep br)
        clear br
        generalize (andL (x) (z)).length = n_v1 at *
        go_wp2_with fail
        refine (or8_any a_u1 n_u1 c_u1 (andL (x) (y)) a_v1 n_v1 c_v1 (andL (x) (z)) W4 Tu1.out Tv1.out (by have h0 := Tu1.out.1; have g0 : (andL (x) (y)).length ≤ 80 := (Nat.le_trans (take_len ..) (Nat.add_le_add (LX0.out.1) (LX1.out.1))); have h1 := Tv1.out.1; have g1 : (andL (x) (z)).length ≤ 80 := (Nat.le_trans (take_len ..) (Nat.add_le_add (LX0.out.1) (LX2.out.1))); omega)).mono ?_
        intro e W5 hm
        obtain ⟨a_Y, c_Y, rfl, TY, br⟩ := hm.to
        clear hm
        replace TY := Lib.hid TY
        replace B := Lib.hid (B.out.trans (br.mono B.out.size))
        replace Tf0 := Lib.hid (Tf0.out.keep br)
        replace Tf1 := Lib.hid (Tf1.out.keep br)
        replace Tf2 := Lib.hid (Tf2.out.keep br)
        replace TX := Lib.hid (TX.out.keep br)
        replace Tu1 := Lib.hid (Tu1.out.keep br)
        replace Tv1 := Lib.hid (Tv1.out.keep br)
        clear br
        generalize (orL (andL (x) (y)) (andL (x) (z))).length = n_Y at *
        clear Tu1
        clear Tv1
        go_wp2_with fail
        refine (or8_any s1 n1 c1 (y) s2 n2 c2 (z) W5 Tf1.out Tf2.out (by have h0 := Tf1.out.1; have g0 : (y).length ≤ 40 := (LX1.out.1); have h1 := Tf2.out.1; have g1 : (z).length ≤ 40 := (LX2.out.1); omega)).mono ?_
        intro e W6 hm
        obtain ⟨a_o2, c_o2, rfl, To2, br⟩ := hm.to
        clear hm
        replace To2 := Lib.hid To2
        replace B := Lib.hid (B.out.trans (br.mono B.out.size))
        replace Tf0 := Lib.hid (Tf0.out.keep br)
        replace Tf1 := Lib.hid (Tf1.out.keep br)
        replace Tf2 := Lib.hid (Tf2.out.keep br)
        replace TX := Lib.hid (TX.out.keep br)
        replace TY := Lib.hid (TY.out.keep br)
        clear br
        generalize (orL (y) (z)).length = n_o2 at *
        go_wp2_with fail
        refine (less8_any s0 n0 c0 (x) a_o2 n_o2 c_o2 (orL (y) (z)) W6 Tf0.out To2.out (by have h0 := Tf0.out.1; have g0 : (x).length ≤ 40 := (LX0.out.1); have h1 := To2.out.1; have g1 : (orL (y) (z)).length ≤ 80 := (Nat.le_trans (take_len ..) (Nat.add_le_add (LX1.out.1) (LX2.out.1))); omega)).mono ?_
        intro e W7 hm
        obtain ⟨a_Z, c_Z, rfl, TZ, br⟩ := hm.to
        clear hm
        replace TZ := Lib.hid TZ
        replace B := Lib.hid (B.out.trans (br.mono B.out.size))
        replace Tf0 := Lib.hid (Tf0.out.keep br)
        replace Tf1 := Lib.hid (Tf1.out.keep br)
        replace Tf2 := Lib.hid (Tf2.out.keep br)
        replace TX := Lib.hid (TX.out.keep br)
        replace TY := Lib.hid (TY.out.keep br)
        replace To2 := Lib.hid (To2.out.keep br)
        clear br
        generalize (lessL (x) (orL (y) (z))).length = n_Z at *
        clear To2
        go_wp2_with fail
        refine (less8_any s0 n0 c0 (x) s1 n1 c1 (y) W7 Tf0.out Tf1.out (by have h0 := Tf0.out.1; have g0 : (x).length ≤ 40 := (LX0.out.1); have h1 := Tf1.out.1; have g1 : (y).length ≤ 40 := (LX1.out.1); omega)).mono ?_
        intro e W8 hm
        obtain ⟨a_u2, c_u2, rfl, Tu2, br⟩ := hm.to
        clear hm
        replace Tu2 := Lib.hid Tu2
        replace B := Lib.hid (B.out.trans (br.mono B.out.size))
        replace Tf0 := Lib.hid (Tf0.out.keep br)
        replace Tf1 := Lib.hid (Tf1.out.keep br)
        replace Tf2 := Lib.hid (Tf2.out.keep br)
        replace TX := Lib.hid (TX.out.keep br)
        replace TY := Lib.hid (TY.out.keep br)
        replace TZ := Lib.hid (TZ.out.keep br)
        clear br
        generalize (lessL (x) (y)).length = n_u2 at *
        go_wp2_with fail
        refine (less8_any a_u2 n_u2 c_u2 (lessL (x) (y)) s2 n2 c2 (z) W8 Tu2.out Tf2.out (by have h0 := Tu2.out.1; have g0 : (lessL (x) (y)).length ≤ 80 := (Nat.le_trans (take_len ..) (Nat.add_le_add (LX0.out.1) (LX1.out.1))); have h1 := Tf2.out.1; have g1 : (z).length ≤ 40 := (LX2.out.1); omega)).mono ?_
        intro e W9 hm
        obtain ⟨a_Wf, c_Wf, rfl, TWf, br⟩ := hm.to
        clear hm
        replace TWf := Lib.hid TWf
        replace B := Lib.hid (B.out.trans (br.mono B.out.size))
        replace Tf0 := Lib.hid (Tf0.out.keep br)
        replace Tf1 := Lib.hid (Tf1.out.keep br)
        replace Tf2 := Lib.hid (Tf2.out.keep br)
        replace TX := Lib.hid (TX.out.keep br)
        replace TY := Lib.hid (TY.out.keep br)
        replace TZ := Lib.hid (TZ.out.keep br)
        replace Tu2 := Lib.hid (Tu2.out.keep br)
        clear br
        generalize (lessL (lessL (x) (y)) (z)).length = n_Wf at *
        clear Tu2
        go_wp2_with fail
        refine (and8_any s0 n0 c0 (x) s1 n1 c1 (y) W9 Tf0.out Tf1.out (by have h0 := Tf0.out.1; have g0 : (x).length ≤ 40 := (LX0.out.1); have h1 := Tf1.out.1; have g1 : (y).length ≤ 40 := (LX1.out.1); omega)).mono ?_
        intro e W10 hm
        obtain ⟨a_u3, c_u3, rfl, Tu3, br⟩ := hm.to
        clear hm
        replace Tu3 := Lib.hid Tu3
        replace B := Lib.hid (B.out.trans (br.mono B.out.size))
        replace Tf0 := Lib.hid (Tf0.out.keep br)
        replace Tf1 := Lib.hid (Tf1.out.keep br)
        replace Tf2 := Lib.hid (Tf2.out.keep br)
        replace TX := Lib.hid (TX.out.keep br)
        replace TY := Lib.hid (TY.out.keep br)
        replace TZ := Lib.hid (TZ.out.keep br)
        replace TWf := Lib.hid (TWf.out.keep br)
        clear br
        generalize (andL (x) (y)).length = n_u3 at *
        go_wp2_with fail
        refine (and8_any s1 n1 c1 (y) s0 n0 c0 (x) W10 Tf1.out Tf0.out (by have h0 := Tf1.out.1; have g0 : (y).length ≤ 40 := (LX1.out.1); have h1 := Tf0.out.1; have g1 : (x).length ≤ 40 := (LX0.out.1); omega)).mono ?_
        intro e W11 hm
        obtain ⟨a_v3, c_v3, rfl, Tv3, br⟩ := hm.to
        clear hm
        replace Tv3 := Lib.hid Tv3
        replace B := Lib.hid (B.out.trans (br.mono B.out.size))
        replace Tf0 := Lib.hid (Tf0.out.keep br)
        replace Tf1 := Lib.hid (Tf1.out.keep br)
        replace Tf2 := Lib.hid (Tf2.out.keep br)
        replace TX := Lib.hid (TX.out.keep br)
        replace TY := Lib.hid (TY.out.keep br)
        replace TZ := Lib.hid (TZ.out.keep br)
        replace TWf := Lib.hid (TWf.out.keep br)
        replace Tu3 := Lib.hid (Tu3.out.keep br)
        clear br
        generalize (andL (y) (x)).length = n_v3 at *
        go_wp2_with fail
        have C := same8_any a_u3 n_u3 c_u3 (andL (x) (y)) a_v3 n_v3 c_v3 (andL (y) (x)) W11 Tu3.out Tv3.out
        rw [decide_eq_true (show (andL (x) (y)) = (andL (y) (x)) from and_comm_ _ _)] at C
        refine C.mono ?_
        clear C
        rintro e W12 ⟨rfl, hd⟩
        have br := hd.bel
        clear hd
        replace B := Lib.hid (B.out.trans (br.mono B.out.size))
        replace Tf0 := Lib.hid (Tf0.out.keep br)
        replace Tf1 := Lib.hid (Tf1.out.keep br)
        replace Tf2 := Lib.hid (Tf2.out.keep br)
        replace TX := Lib.hid (TX.out.keep br)
        replace TY := Lib.hid (TY.out.keep br)
        replace TZ := Lib.hid (TZ.out.keep br)
        replace TWf := Lib.hid (TWf.out.keep br)
        replace Tu3 := Lib.hid (Tu3.out.keep br)
        replace Tv3 := Lib.hid (Tv3.out.keep br)
        clear br
        clear Tu3
        clear Tv3
        go_wp2_with fail
        refine (or8_any s0 n0 c0 (x) s1 n1 c1 (y) W12 Tf0.out Tf1.out (by have h0 := Tf0.out.1; have g0 : (x).length ≤ 40 := (LX0.out.1); have h1 := Tf1.out.1; have g1 : (y).length ≤ 40 := (LX1.out.1); omega)).mono ?_
        intro e W13 hm
        obtain ⟨a_u4, c_u4, rfl, Tu4, br⟩ := hm.to
        clear hm
        replace Tu4 := Lib.hid Tu4
        replace B := Lib.hid (B.out.trans (br.mono B.out.size))
        replace Tf0 := Lib.hid (Tf0.out.keep br)
        replace Tf1 := Lib.hid (Tf1.out.keep br)
        replace Tf2 := Lib.hid (Tf2.out.keep br)
        replace TX := Lib.hid (TX.out.keep br)
        replace TY := Lib.hid (TY.out.keep br)
        replace TZ := Lib.hid (TZ.out.keep br)
        replace TWf := Lib.hid (TWf.out.keep br)
        clear br
        generalize (orL (x) (y)).length = n_u4 at *
        go_wp2_with fail
        refine (or8_any s1 n1 c1 (y) s0 n0 c0 (x) W13 Tf1.out Tf0.out (by have h0 := Tf1.out.1; have g0 : (y).length ≤ 40 := (LX1.out.1); have h1 := Tf0.out.1; have g1 : (x).length ≤ 40 := (LX0.out.1); omega)).mono ?_
        intro e W14 hm
        obtain ⟨a_v4, c_v4, rfl, Tv4, br⟩ := hm.to
        clear hm
        replace Tv4 := Lib.hid Tv4
        replace B := Lib.hid (B.out.trans (br.mono B.out.size))
        replace Tf0 := Lib.hid (Tf0.out.keep br)
        replace Tf1 := Lib.hid (Tf1.out.keep br)
        replace Tf2 := Lib.hid (Tf2.out.keep br)
        replace TX := Lib.hid (TX.out.keep br)
        replace TY := Lib.hid (TY.out.keep br)
        replace TZ := Lib.hid (TZ.out.keep br)
        replace TWf := Lib.hid (TWf.out.keep br)
        replace Tu4 := Lib.hid (Tu4.out.keep br)
        clear br
        generalize (orL (y) (x)).length = n_v4 at *
        go_wp2_with fail
        have C := same8_any a_u4 n_u4 c_u4 (orL (x) (y)) a_v4 n_v4 c_v4 (orL (y) (x)) W14 Tu4.out Tv4.out
        rw [decide_eq_true (show (orL (x) (y)) = (orL (y) (x)) from or_comm_ _ _)] at C
        refine C.mono ?_
        clear C
        rintro e W15 ⟨rfl, hd⟩
        have br := hd.bel
        clear hd
        replace B := Lib.hid (B.out.trans (br.mono B.out.size))
        replace Tf0 := Lib.hid (Tf0.out.keep br)
        replace Tf1 := Lib.hid (Tf1.out.keep br)
        replace Tf2 := Lib.hid (Tf2.out.keep br)
        replace TX := Lib.hid (TX.out.keep br)
        replace TY := Lib.hid (TY.out.keep br)
        replace TZ := Lib.hid (TZ.out.keep br)
        replace TWf := Lib.hid (TWf.out.keep br)
        replace Tu4 := Lib.hid (Tu4.out.keep br)
        replace Tv4 := Lib.hid (Tv4.out.keep br)
        clear br
        clear Tu4
        clear Tv4
        go_wp2_with fail
        have C := same8_any a_X n_X c_X (andL (x) (orL (y) (z))) a_Y n_Y c_Y (orL (andL (x) (y)) (andL (x) (z))) W15 TX.out TY.out
        rw [decide_eq_true (show (andL (x) (orL (y) (z))) = (orL (andL (x) (y)) (andL (x) (z))) from and_or _ _ _)] at C
        refine C.mono ?_
        clear C
        rintro e W16 ⟨rfl, hd⟩
        have br := hd.bel
        clear hd
        replace B := Lib.hid (B.out.trans (br.mono B.out.size))
        replace Tf0 := Lib.hid (Tf0.out.keep br)
        replace Tf1 := Lib.hid (Tf1.out.keep br)
        replace Tf2 := Lib.hid (Tf2.out.keep br)
        replace TX := Lib.hid (TX.out.keep br)
        replace TY := Lib.hid (TY.out.keep br)
        replace TZ := Lib.hid (TZ.out.keep br)
        replace TWf := Lib.hid (TWf.out.keep br)
        clear br
        clear TX
        clear TY
        go_wp2_with fail
        have C := same8_any a_Z n_Z c_Z (lessL (x) (orL (y) (z))) a_Wf n_Wf c_Wf (lessL (lessL (x) (y)) (z)) W16 TZ.out TWf.out
        rw [decide_eq_true (show (lessL (x) (orL (y) (z))) = (lessL (lessL (x) (y)) (z)) from less_or _ _ _)] at C
        refine C.mono ?_
        clear C
        rintro e W17 ⟨rfl, hd⟩
        have br := hd.bel
        clear hd
        replace B := Lib.hid (B.out.trans (br.mono B.out.size))
        replace Tf0 := Lib.hid (Tf0.out.keep br)
        replace Tf1 := Lib.hid (Tf1.out.keep br)
        replace Tf2 := Lib.hid (Tf2.out.keep br)
        replace TZ := Lib.hid (TZ.out.keep br)
        replace TWf := Lib.hid (TWf.out.keep br)
        clear br
        clear TZ
        clear TWf
        go_wp2_with fail
        refine (and8_any s0 n0 c0 (x) s1 n1 c1 (y) W17 Tf0.out Tf1.out (by have h0 := Tf0.out.1; have g0 : (x).length ≤ 40 := (LX0.out.1); have h1 := Tf1.out.1; have g1 : (y).length ≤ 40 := (LX1.out.1); omega)).mono ?_
        intro e W18 hm
        obtain ⟨a_u5, c_u5, rfl, Tu5, br⟩ := hm.to
        clear hm
        replace Tu5 := Lib.hid Tu5
        replace B := Lib.hid (B.out.trans (br.mono B.out.size))
        replace Tf0 := Lib.hid (Tf0.out.keep br)
        replace Tf1 := Lib.hid (Tf1.out.keep br)
        replace Tf2 := Lib.hid (Tf2.out.keep br)
        clear br
        generalize (andL (x) (y)).length = n_u5 at *
        go_wp2_with fail
        refine (less8_any s0 n0 c0 (x) s1 n1 c1 (y) W18 Tf0.out Tf1.out (by have h0 := Tf0.out.1; have g0 : (x).length ≤ 40 := (LX0.out.1); have h1 := Tf1.out.1; have g1 : (y).length ≤ 40 := (LX1.out.1); omega)).mono ?_
        intro e W19 hm
        obtain ⟨a_v5, c_v5, rfl, Tv5, br⟩ := hm.to
        clear hm
        replace Tv5 := Lib.hid Tv5
        replace B := Lib.hid (B.out.trans (br.mono B.out.size))
        replace Tf0 := Lib.hid (Tf0.out.keep br)
        replace Tf1 := Lib.hid (Tf1.out.keep br)
        replace Tf2 := Lib.hid (Tf2.out.keep br)
        replace Tu5 := Lib.hid (Tu5.out.keep br)
        clear br
        generalize (lessL (x) (y)).length = n_v5 at *
        go_wp2_with fail
        refine (or8_any a_u5 n_u5 c_u5 (andL (x) (y)) a_v5 n_v5 c_v5 (lessL (x) (y)) W19 Tu5.out Tv5.out (by have h0 := Tu5.out.1; have g0 : (andL (x) (y)).length ≤ 80 := (Nat.le_trans (take_len ..) (Nat.add_le_add (LX0.out.1) (LX1.out.1))); have h1 := Tv5.out.1; have g1 : (lessL (x) (y)).length ≤ 80 := (Nat.le_trans (take_len ..) (Nat.add_le_add (LX0.out.1) (LX1.out.1))); omega)).mono ?_
        intro e W20 hm
        obtain ⟨a_t5, c_t5, rfl, Tt5, br⟩ := hm.to
        clear hm
        replace Tt5 := Lib.hid Tt5
        replace B := Lib.hid (B.out.trans (br.mono B.out.size))
        replace Tf0 := Lib.hid (Tf0.out.keep br)
        replace Tf1 := Lib.hid (Tf1.out.keep br)
        replace Tf2 := Lib.hid (Tf2.out.keep br)
        replace Tu5 := Lib.hid (Tu5.out.keep br)
        replace Tv5 := Lib.hid (Tv5.out.keep br)
        clear br
        generalize (orL (andL (x) (y)) (lessL (x) (y))).length = n_t5 at *
        clear Tu5
        clear Tv5
        go_wp2_with fail
        refine (of_any s0 n0 c0 (x) W20 Tf0.out (by have h0 := Tf0.out.1; have g0 : (x).length ≤ 40 := (LX0.out.1); omega)).mono ?_
        intro e W21 hm
        obtain ⟨a_q5, c_q5, rfl, Tq5, br⟩ := hm.to
        clear hm
        replace Tq5 := Lib.hid Tq5
        replace B := Lib.hid (B.out.trans (br.mono B.out.size))
        replace Tf0 := Lib.hid (Tf0.out.keep br)
        replace Tf1 := Lib.hid (Tf1.out.keep br)
        replace Tf2 := Lib.hid (Tf2.out.keep br)
        replace Tt5 := Lib.hid (Tt5.out.keep br)
        clear br
        generalize (canon (x)).length = n_q5 at *
        go_wp2_with fail
        have C := same8_any a_t5 n_t5 c_t5 (orL (andL (x) (y)) (lessL (x) (y))) a_q5 n_q5 c_q5 (canon (x)) W21 Tt5.out Tq5.out
        rw [decide_eq_true (show (orL (andL (x) (y)) (lessL (x) (y))) = (canon (x)) from or_parts _ _)] at C
        refine C.mono ?_
        clear C
        rintro e W22 ⟨rfl, hd⟩
        have br := hd.bel
        clear hd
        replace B := Lib.hid (B.out.trans (br.mono B.out.size))
        replace Tf0 := Lib.hid (Tf0.out.keep br)
        replace Tf1 := Lib.hid (Tf1.out.keep br)
        replace Tf2 := Lib.hid (Tf2.out.keep br)
        replace Tt5 := Lib.hid (Tt5.out.keep br)
        replace Tq5 := Lib.hid (Tq5.out.keep br)
        clear br
        clear Tt5
        clear Tq5
        go_wp2_with fail
        refine (and8_any s0 n0 c0 (x) s1 n1 c1 (y) W22 Tf0.out Tf1.out (by have h0 := Tf0.out.1; have g0 : (x).length ≤ 40 := (LX0.out.1); have h1 := Tf1.out.1; have g1 : (y).length ≤ 40 := (LX1.out.1); omega)).mono ?_
        intro e W23 hm
        obtain ⟨a_u6, c_u6, rfl, Tu6, br⟩ := hm.to
        clear hm
        replace Tu6 := Lib.hid Tu6
        replace B := Lib.hid (B.out.trans (br.mono B.out.size))
        replace Tf0 := Lib.hid (Tf0.out.keep br)
        replace Tf1 := Lib.hid (Tf1.out.keep br)
        replace Tf2 := Lib.hid (Tf2.out.keep br)
        clear br
        generalize (andL (x) (y)).length = n_u6 at *
        go_wp2_with fail
        refine (less8_any s0 n0 c0 (x) s1 n1 c1 (y) W23 Tf0.out Tf1.out (by have h0 := Tf0.out.1; have g0 : (x).length ≤ 40 := (LX0.out.1); have h1 := Tf1.out.1; have g1 : (y).length ≤ 40 := (LX1.out.1); omega)).mono ?_
        intro e W24 hm
        obtain ⟨a_v6, c_v6, rfl, Tv6, br⟩ := hm.to
        clear hm
        replace Tv6 := Lib.hid Tv6
        replace B := Lib.hid (B.out.trans (br.mono B.out.size))
        replace Tf0 := Lib.hid (Tf0.out.keep br)
        replace Tf1 := Lib.hid (Tf1.out.keep br)
        replace Tf2 := Lib.hid (Tf2.out.keep br)
        replace Tu6 := Lib.hid (Tu6.out.keep br)
        clear br
        generalize (lessL (x) (y)).length = n_v6 at *
        go_wp2_with fail
        refine (and8_any a_u6 n_u6 c_u6 (andL (x) (y)) a_v6 n_v6 c_v6 (lessL (x) (y)) W24 Tu6.out Tv6.out (by have h0 := Tu6.out.1; have g0 : (andL (x) (y)).length ≤ 80 := (Nat.le_trans (take_len ..) (Nat.add_le_add (LX0.out.1) (LX1.out.1))); have h1 := Tv6.out.1; have g1 : (lessL (x) (y)).length ≤ 80 := (Nat.le_trans (take_len ..) (Nat.add_le_add (LX0.out.1) (LX1.out.1))); omega)).mono ?_
        intro e W25 hm
        obtain ⟨a_t6, c_t6, rfl, Tt6, br⟩ := hm.to
        clear hm
        replace Tt6 := Lib.hid Tt6
        replace B := Lib.hid (B.out.trans (br.mono B.out.size))
        replace Tf0 := Lib.hid (Tf0.out.keep br)
        replace Tf1 := Lib.hid (Tf1.out.keep br)
        replace Tf2 := Lib.hid (Tf2.out.keep br)
        replace Tu6 := Lib.hid (Tu6.out.keep br)
        replace Tv6 := Lib.hid (Tv6.out.keep br)
        clear br
        generalize (andL (andL (x) (y)) (lessL (x) (y))).length = n_t6 at *
        clear Tu6
        clear Tv6
        have e0 : n_t6 = 0 := by rw [← Tt6.out.1, and_parts]; rfl
        have tz : ((n_t6 : Int) == 0) = true := by rw [e0]; rfl
        clear e0
        go_wp2_with fail
        refine (eknown_any _).mono ?_
        rintro e W26 ⟨rfl, br⟩
        replace B := Lib.hid (B.out.trans (br.mono B.out.size))
        clear br
        go_wp2
        go_ret
        exact ⟨rfl, B.out⟩

      · have LX2 := Lib.hid lx2
        clear lx2
        go_enter Try.func5, Try.ntmps5
        have B := Lib.hid (Below.refl w.heap.size w)
        go_wp2_with fail
        have C := light8_any s0 n0 c0 (x) w Tf0.out S0.out
        rw [decide_eq_true LX0.out] at C
        refine C.mono ?_
        clear C
        rintro e w' ⟨rfl, rfl⟩
        go_wp2_with fail
        have C := light8_any s1 n1 c1 (y) w Tf1.out S1.out
        rw [decide_eq_true LX1.out] at C
        refine C.mono ?_
        clear C
        rintro e w' ⟨rfl, rfl⟩
        go_wp2_with fail
        have C := light8_any s2 n2 c2 (z) w Tf2.out S2.out
        rw [decide_eq_false LX2.out] at C
        refine C.mono ?_
        clear C
        rintro e w' ⟨rfl, rfl⟩
        go_wp2_with fail
        refine (eknown_any _).mono ?_
        rintro e W1 ⟨rfl, br⟩
        replace B := Lib.hid (B.out.trans (br.mono B.out.size))
        clear br
        go_wp2
        go_ret
        exact ⟨rfl, B.out⟩

    · have LX1 := Lib.hid lx1
      clear lx1
      go_enter Try.func5, Try.ntmps5
      have B := Lib.hid (Below.refl w.heap.size w)
      go_wp2_with fail
      have C := light8_any s0 n0 c0 (x) w Tf0.out S0.out
      rw [decide_eq_true LX0.out] at C
      refine C.mono ?_
      clear C
      rintro e w' ⟨rfl, rfl⟩
      go_wp2_with fail
      have C := light8_any s1 n1 c1 (y) w Tf1.out S1.out
      rw [decide_eq_false LX1.out] at C
      refine C.mono ?_
      clear C
      rintro e w' ⟨rfl, rfl⟩
      go_wp2_with fail
      refine (eknown_any _).mono ?_
      rintro e W1 ⟨rfl, br⟩
      replace B := Lib.hid (B.out.trans (br.mono B.out.size))
      clear br
      go_wp2
      go_ret
      exact ⟨rfl, B.out⟩

  · have LX0 := Lib.hid lx0
    clear lx0
    go_enter Try.func5, Try.ntmps5
    have B := Lib.hid (Below.refl w.heap.size w)
    go_wp2_with fail
    have C := light8_any s0 n0 c0 (x) w Tf0.out S0.out
    rw [decide_eq_false LX0.out] at C
    refine C.mono ?_
    clear C
    rintro e w' ⟨rfl, rfl⟩
    go_wp2_with fail
    refine (eknown_any _).mono ?_
    rintro e W1 ⟨rfl, br⟩
    replace B := Lib.hid (B.out.trans (br.mono B.out.size))
    clear br
    go_wp2
    go_ret
    exact ⟨rfl, B.out⟩

theorem walk (s0 : Option Addr) (n0 c0 : Nat) (x : List Tx) (s1 : Option Addr) (n1 c1 : Nat) (y : List Tx) (s2 : Option Addr) (n2 c2 : Nat) (z : List Tx) (w : World) (h0 : TxAt w s0 n0 c0 x ∧ Sh x) (h1 : TxAt w s1 n1 c1 y ∧ Sh y) (h2 : TxAt w s2 n2 c2 z ∧ Sh z) :
    Calls Try.prog 5 #[.slice s0 n0 c0, .slice s1 n1 c1, .slice s2 n2 c2] w fun e w' => e = .returned (.bool true) ∧ Below w.heap.size w w' := walk0 s0 n0 c0 x s1 n1 c1 y s2 n2 c2 z w h0 h1 h2

set_option maxRecDepth 100000 in
theorem lifted (os : Os) (started : os.Started) (H : Type) (enc : TypeId × Value → H) :
    ReturnsInHanded {} Try.checked os 5 .any (Rows.setsOrdersSpec.pre6 enc Try.prog Try.f5 Rows.setsOrdersRow.domain false) (Rows.setsOrdersSpec.post enc Try.prog Try.f5 false true false false) := by
  refine returnsInHanded_of_change (C := Try.checked) own started (by kernel_rfl) Try.func5
    (ChangeSpec.witness6 (enc := enc) (C := Try.checked) false ⟨#[], #[.slice none 0 0, .slice none 0 0, .slice none 0 0], []⟩ 8 (by kernel_rfl) (by kernel_rfl) (by kernel_rfl) (by kernel_rfl)) ?_
  intro W base args ds gs before hval0 hW hcnd _
  have hval : ∀ (j : Nat) t v, Try.f5.params[j]? = some t → args[j]? = some v → Value.okWide Try.prog W .any base t v := hval0
  have hW' := hW
  obtain ⟨p, q, hA0, hV, rfl, hfz, hnd⟩ := hW
  have hA : DataW.TrodAll enc Try.prog W 0 (fun _ => true) true Try.f5.params.toList args.toList ds p := hA0
  rw [Try.params5] at hA hval
  obtain ⟨v0, vs0, d0, ds0, p0, q0, hargs, rfl, rfl, h0, r0⟩ := trodAll_cons hA
  obtain ⟨v1, vs1, d1, ds1, p1, q1, rfl, rfl, rfl, h1, r1⟩ := trodAll_cons r0
  obtain ⟨v2, vs2, d2, ds2, p2, q2, rfl, rfl, rfl, h2, r2⟩ := trodAll_cons r1
  obtain ⟨rfl, rfl, rfl⟩ := trodAll_nil r2
  obtain rfl : args = #[v0, v1, v2] := by cases args; simp_all
  obtain ⟨rfl, rfl⟩ := trodVars_none hV
  obtain ⟨a0, len0, cap0, rfl⟩ := okWide_slice Try.underlying22 (hval 0 22 v0 rfl rfl)
  have k0 := h0
  have lt0 : ∀ x ∈ p0, x.block < W.heap.size := by obtain ⟨m, hm⟩ := k0; exact DataW.trod_lt m _ _ _ hm
  obtain ⟨z0, w0⟩ := open_strs h0
  obtain ⟨a1, len1, cap1, rfl⟩ := okWide_slice Try.underlying22 (hval 1 22 v1 rfl rfl)
  have k1 := h1
  have lt1 : ∀ x ∈ p1, x.block < W.heap.size := by obtain ⟨m, hm⟩ := k1; exact DataW.trod_lt m _ _ _ hm
  obtain ⟨z1, w1⟩ := open_strs h1
  obtain ⟨a2, len2, cap2, rfl⟩ := okWide_slice Try.underlying22 (hval 2 22 v2 rfl rfl)
  have k2 := h2
  have lt2 : ∀ x ∈ p2, x.block < W.heap.size := by obtain ⟨m, hm⟩ := k2; exact DataW.trod_lt m _ _ _ hm
  obtain ⟨z2, w2⟩ := open_strs h2
  clear hA0 hval0
  refine (walk a0 len0 cap0 z0 a1 len1 cap1 z1 a2 len2 cap2 z2 W w0 w1 w2).mono fun e W' ⟨he, bel⟩ => ?_
  subst he
  exact ⟨_, rfl, _, _, _, [], _, [], hW', trodAll_mk1 (shut_bool Try.underlying4 _), (trodAll_cons_mk (Below.trod laidOut (by kernel_rfl) (of_decide_eq_true (by kernel_rfl)) k0 bel lt0) (trodAll_cons_mk (Below.trod laidOut (by kernel_rfl) (of_decide_eq_true (by kernel_rfl)) k1 bel lt1) (trodAll_cons_mk (Below.trod laidOut (by kernel_rfl) (of_decide_eq_true (by kernel_rfl)) k2 bel lt2) trodAll_mk0))), rfl, bel.frame _, fun h => by cases h⟩

theorem over : Rows.setsOrdersRow.holds Try.pinned (OpenSpec.ofChange Rows.setsOrdersSpec) :=
  OpenClaim.holds_of_wide 5 Try.f5 rfl rfl rfl rfl rfl rfl rfl ⟨rfl, rfl, rfl, rfl, rfl⟩ rfl rfl rfl rfl rfl (by kernel_rfl) Try.func5 (by kernel_rfl)
    (of_decide_eq_true (by kernel_rfl)) (by unfold Func.isWrapper; first | (rw [if_pos (by decide +kernel)]; kernel_rfl) | (rw [if_neg (by decide +kernel)]; exact ⟨rfl, rfl⟩))
    (fun os started H enc _ => lifted os started H enc)

theorem proved : Rows.SetsOrdersSaid := over
end setsOrders
theorem setsOrders_holds : Rows.SetsOrdersSaid := setsOrders.proved
#print axioms setsOrders_holds
end Go.Proofs.Ytjpighkbfldloaa
