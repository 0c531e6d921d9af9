/-
  The statement 'SetsSizes' of layer 8: both lists have together as many texts, each once, as And and Or; Less has as many as the one has beyond And.
  No condition on the arguments.
-/
import Derived.Test.YtjpighkbfldloaaEKnown
import Derived.Test.YtjpighkbfldloaaEArgs
import Derived.Test.YtjpighkbfldloaaRows
import Derived.ChangeOld
namespace Go.Proofs.Ytjpighkbfldloaa
namespace setsSizes
open Go.ChangeShapes Go.WideShapes Go.ChangeAt Go.RowKit
open Go.ChangeMaps (open_string shut_string)
set_option linter.unusedVariables false
set_option linter.unusedSimpArgs false

theorem own : ownKnob Try.prog.godebug = none := by kernel_rfl

set_option maxRecDepth 100000 in
set_option maxHeartbeats 16000000 in
theorem walk0 (s0 : Option Addr) (n0 c0 : Nat) (x : List Tx) (s1 : Option Addr) (n1 c1 : Nat) (y : List Tx) (w : World) (h0 : TxAt w s0 n0 c0 x ∧ Sh x) (h1 : TxAt w s1 n1 c1 y ∧ Sh y) :
    Calls Try.prog 7 #[.slice s0 n0 c0, .slice s1 n1 c1] w fun e w' => e = .returned (.bool true) ∧ Below w.heap.size w w' := by
  have Tf0 := Lib.hid h0.1
  have S0 := Lib.hid h0.2
  clear h0
  have Tf1 := Lib.hid h1.1
  have S1 := Lib.hid h1.2
  clear h1
  by_cases lx0 : lightL x
  · have LX0 := Lib.hid lx0
    clear lx0
    by_cases lx1 : lightL y
    · have LX1 := Lib.hid lx1
      clear lx1
      go_enter Try.func7, Try.ntmps7
      have B := Lib.hid (Below.refl w.heap.size w)
      go_wp2_with fail
      have C := light8_any s0 n0 c0 (x) w Tf0.out S0.out
      rw [decide_eq_true LX0.out] at C
      refine C.mono ?_
      clear C
      rintro e w' ⟨rfl, rfl⟩
      go_wp2_with fail
      have C := light8_any s1 n1 c1 (y) w Tf1.out S1.out
      rw [decide_eq_true LX1.out] at C
      refine C.mono ?_
      clear C
      rintro e w' ⟨rfl, rfl⟩
      go_wp2_with fail
      refine (of_any s0 n0 c0 (x) w Tf0.out (by have h0 := Tf0.out.1; have g0 : (x).length ≤ 40 := (LX0.out.1); omega)).mono ?_
      intro e W1 hm
      obtain ⟨a_X, c_X, rfl, TX, br⟩ := hm.to
      clear hm
      replace TX := Lib.hid TX
      replace B := Lib.hid (B.out.trans (br.mono B.out.size))
      replace Tf0 := Lib.hid (Tf0.out.keep br)
      replace Tf1 := Lib.hid (Tf1.out.keep br)
      clear br
      generalize (canon (x)).length = n_X at *
      have b_X : n_X ≤ 40 := by rw [← TX.out.1]; exact Nat.le_trans (canon_len _) (LX0.out.1)
      go_wp2_with fail
      refine (of_any s1 n1 c1 (y) W1 Tf1.out (by have h0 := Tf1.out.1; have g0 : (y).length ≤ 40 := (LX1.out.1); omega)).mono ?_
      intro e W2 hm
      obtain ⟨a_Y, c_Y, rfl, TY, br⟩ := hm.to
      clear hm
      replace TY := Lib.hid TY
      replace B := Lib.hid (B.out.trans (br.mono B.out.size))
      replace Tf0 := Lib.hid (Tf0.out.keep br)
      replace Tf1 := Lib.hid (Tf1.out.keep br)
      replace TX := Lib.hid (TX.out.keep br)
      clear br
      generalize (canon (y)).length = n_Y at *
      have b_Y : n_Y ≤ 40 := by rw [← TY.out.1]; exact Nat.le_trans (canon_len _) (LX1.out.1)
      go_wp2_with fail
      refine (and8_any s0 n0 c0 (x) s1 n1 c1 (y) W2 Tf0.out Tf1.out (by have h0 := Tf0.out.1; have g0 : (x).length ≤ 40 := (LX0.out.1); have h1 := Tf1.out.1; have g1 : (y).length ≤ 40 := (LX1.out.1); omega)).mono ?_
      intro e W3 hm
      obtain ⟨a_A, c_A, rfl, TA, br⟩ := hm.to
      clear hm
      replace TA := Lib.hid TA
      replace B := Lib.hid (B.out.trans (br.mono B.out.size))
      replace Tf0 := Lib.hid (Tf0.out.keep br)
      replace Tf1 := Lib.hid (Tf1.out.keep br)
      replace TX := Lib.hid (TX.out.keep br)
      replace TY := Lib.hid (TY.out.keep br)
      clear br
      generalize (andL (x) (y)).length = n_A at *
      have b_A : n_A ≤ 80 := by rw [← TA.out.1]; exact Nat.le_trans (take_len ..) (Nat.add_le_add (LX0.out.1) (LX1.out.1))
      go_wp2_with fail
      refine (or8_any s0 n0 c0 (x) s1 n1 c1 (y) W3 Tf0.out Tf1.out (by have h0 := Tf0.out.1; have g0 : (x).length ≤ 40 := (LX0.out.1); have h1 := Tf1.out.1; have g1 : (y).length ≤ 40 := (LX1.out.1); omega)).mono ?_
      intro e W4 hm
      obtain ⟨a_o, c_o, rfl, To, br⟩ := hm.to
      clear hm
      replace To := Lib.hid To
      replace B := Lib.hid (B.out.trans (br.mono B.out.size))
      replace Tf0 := Lib.hid (Tf0.out.keep br)
      replace Tf1 := Lib.hid (Tf1.out.keep br)
      replace TX := Lib.hid (TX.out.keep br)
      replace TY := Lib.hid (TY.out.keep br)
      replace TA := Lib.hid (TA.out.keep br)
      clear br
      generalize (orL (x) (y)).length = n_o at *
      have b_o : n_o ≤ 80 := by rw [← To.out.1]; exact Nat.le_trans (take_len ..) (Nat.add_le_add (LX0.out.1) (LX1.out.1))
      have e1 : (lessL (x) (y)).length + n_A = n_X := by rw [← TA.out.1, ← TX.out.1]; exact less_len _ _
      have e2 : (lessL (y) (x)).length + n_A = n_Y := by rw [← TA.out.1, ← TY.out.1, and_comm_]; exact less_len _ _
      have e3 : n_o = (lessL (x) (y)).length + n_Y := by rw [← To.out.1, ← TY.out.1]; exact or_len _ _
      have E1 := Lib.hid e1
      have E2 := Lib.hid e2
      have t1 : (((n_X : Int) + (n_Y : Int)) == ((n_A : Int) + (n_o : Int))) = true := by rw [beq_iff_eq]; omega
      clear e1 e2 e3
      go_wp2_with fail
      refine (less8_any s0 n0 c0 (x) s1 n1 c1 (y) W4 Tf0.out Tf1.out (by have h0 := Tf0.out.1; have g0 : (x).length ≤ 40 := (LX0.out.1); have h1 := Tf1.out.1; have g1 : (y).length ≤ 40 := (LX1.out.1); omega)).mono ?_
      intro e W5 hm
      obtain ⟨a_u, c_u, rfl, Tu, br⟩ := hm.to
      clear hm
      replace Tu := Lib.hid Tu
      replace B := Lib.hid (B.out.trans (br.mono B.out.size))
      replace Tf0 := Lib.hid (Tf0.out.keep br)
      replace Tf1 := Lib.hid (Tf1.out.keep br)
      replace TX := Lib.hid (TX.out.keep br)
      replace TY := Lib.hid (TY.out.keep br)
      replace TA := Lib.hid (TA.out.keep br)
      replace To := Lib.hid (To.out.keep br)
      clear br
      generalize (lessL (x) (y)).length = n_u at *
      have b_u : n_u ≤ 80 := by rw [← Tu.out.1]; exact Nat.le_trans (take_len ..) (Nat.add_le_add (LX0.out.1) (LX1.out.1))
      have t2 : ((n_u : Int) == ((n_X : Int) - (n_A : Int))) = true := by rw [beq_iff_eq]; have h1 := Tu.out.1; have h2 := E1.out; omega
      go_wp2_with fail
      refine (less8_any s1 n1 c1 (y) s0 n0 c0 (x) W5 Tf1.out Tf0.out (by have h0 := Tf1.out.1; have g0 : (y).length ≤ 40 := (LX1.out.1); have h1 := Tf0.out.1; have g1 : (x).length ≤ 40 := (LX0.out.1); omega)).mono ?_
      intro e W6 hm
      obtain ⟨a_v, c_v, rfl, Tv, br⟩ := hm.to
      clear hm
      replace Tv := Lib.hid Tv
      replace B := Lib.hid (B.out.trans (br.mono B.out.size))
      replace Tf0 := Lib.hid (Tf0.out.keep br)
      replace Tf1 := Lib.hid (Tf1.out.keep br)
      replace TX := Lib.hid (TX.out.keep br)
      replace TY := Lib.hid (TY.out.keep br)
      replace TA := Lib.hid (TA.out.keep br)
      replace To := Lib.hid (To.out.keep br)
      replace Tu := Lib.hid (Tu.out.keep br)
      clear br
      generalize (lessL (y) (x)).length = n_v at *
      have b_v : n_v ≤ 80 := by rw [← Tv.out.1]; exact Nat.le_trans (take_len ..) (Nat.add_le_add (LX1.out.1) (LX0.out.1))
      have t3 : ((n_v : Int) == ((n_Y : Int) - (n_A : Int))) = true := by rw [beq_iff_eq]; have h1 := Tv.out.1; have h2 := E2.out; omega
      go_wp2_with fail
      refine (eknown_any _).mono ?_
      rintro e W7 ⟨rfl, br⟩
      replace B := Lib.hid (B.out.trans (br.mono B.out.size))
      clear br
      go_wp2
      go_ret
      exact ⟨rfl, B.out⟩

    · have LX1 := Lib.hid lx1
      clear lx1
      go_enter Try.func7, Try.ntmps7
      have B := Lib.hid (Below.refl w.heap.size w)
      go_wp2_with fail
      have C := light8_any s0 n0 c0 (x) w Tf0.out S0.out
      rw [decide_eq_true LX0.out] at C
      refine C.mono ?_
      clear C
      rintro e w' ⟨rfl, rfl⟩
      go_wp2_with fail
      have C := light8_any s1 n1 c1 (y) w Tf1.out S1.out
      rw [decide_eq_false LX1.out] at C
      refine C.mono ?_
      clear C
      rintro e w' ⟨rfl, rfl⟩
      go_wp2_with fail
      refine (eknown_any _).mono ?_
      rintro e W1 ⟨rfl, br⟩
      replace B := Lib.hid (B.out.trans (br.mono B.out.size))
      clear br
      go_wp2
      go_ret
      exact ⟨rfl, B.out⟩

  · have LX0 := Lib.hid lx0
    clear lx0
    go_enter Try.func7, Try.ntmps7
    have B := Lib.hid (Below.refl w.heap.size w)
    go_wp2_with fail
    have C := light8_any s0 n0 c0 (x) w Tf0.out S0.out
    rw [decide_eq_false LX0.out] at C
    refine C.mono ?_
    clear C
    rintro e w' ⟨rfl, rfl⟩
    go_wp2_with fail
    refine (eknown_any _).mono ?_
    rintro e W1 ⟨rfl, br⟩
    replace B := Lib.hid (B.out.trans (br.mono B.out.size))
    clear br
    go_wp2
    go_ret
    exact ⟨rfl, B.out⟩

theorem walk (s0 : Option Addr) (n0 c0 : Nat) (x : List Tx) (s1 : Option Addr) (n1 c1 : Nat) (y : List Tx) (w : World) (h0 : TxAt w s0 n0 c0 x ∧ Sh x) (h1 : TxAt w s1 n1 c1 y ∧ Sh y) :
    Calls Try.prog 7 #[.slice s0 n0 c0, .slice s1 n1 c1] w fun e w' => e = .returned (.bool true) ∧ Below w.heap.size w w' := walk0 s0 n0 c0 x s1 n1 c1 y w h0 h1

set_option maxRecDepth 100000 in
theorem lifted (os : Os) (started : os.Started) (H : Type) (enc : TypeId × Value → H) :
    ReturnsInHanded {} Try.checked os 7 .any (Rows.setsSizesSpec.pre6 enc Try.prog Try.f7 Rows.setsSizesRow.domain false) (Rows.setsSizesSpec.post enc Try.prog Try.f7 false true false false) := by
  refine returnsInHanded_of_change (C := Try.checked) own started (by kernel_rfl) Try.func7
    (ChangeSpec.witness6 (enc := enc) (C := Try.checked) false ⟨#[], #[.slice none 0 0, .slice none 0 0], []⟩ 8 (by kernel_rfl) (by kernel_rfl) (by kernel_rfl) (by kernel_rfl)) ?_
  intro W base args ds gs before hval0 hW hcnd _
  have hval : ∀ (j : Nat) t v, Try.f7.params[j]? = some t → args[j]? = some v → Value.okWide Try.prog W .any base t v := hval0
  have hW' := hW
  obtain ⟨p, q, hA0, hV, rfl, hfz, hnd⟩ := hW
  have hA : DataW.TrodAll enc Try.prog W 0 (fun _ => true) true Try.f7.params.toList args.toList ds p := hA0
  rw [Try.params7] at hA hval
  obtain ⟨v0, vs0, d0, ds0, p0, q0, hargs, rfl, rfl, h0, r0⟩ := trodAll_cons hA
  obtain ⟨v1, vs1, d1, ds1, p1, q1, rfl, rfl, rfl, h1, r1⟩ := trodAll_cons r0
  obtain ⟨rfl, rfl, rfl⟩ := trodAll_nil r1
  obtain rfl : args = #[v0, v1] := by cases args; simp_all
  obtain ⟨rfl, rfl⟩ := trodVars_none hV
  obtain ⟨a0, len0, cap0, rfl⟩ := okWide_slice Try.underlying22 (hval 0 22 v0 rfl rfl)
  have k0 := h0
  have lt0 : ∀ x ∈ p0, x.block < W.heap.size := by obtain ⟨m, hm⟩ := k0; exact DataW.trod_lt m _ _ _ hm
  obtain ⟨z0, w0⟩ := open_strs h0
  obtain ⟨a1, len1, cap1, rfl⟩ := okWide_slice Try.underlying22 (hval 1 22 v1 rfl rfl)
  have k1 := h1
  have lt1 : ∀ x ∈ p1, x.block < W.heap.size := by obtain ⟨m, hm⟩ := k1; exact DataW.trod_lt m _ _ _ hm
  obtain ⟨z1, w1⟩ := open_strs h1
  clear hA0 hval0
  refine (walk a0 len0 cap0 z0 a1 len1 cap1 z1 W w0 w1).mono fun e W' ⟨he, bel⟩ => ?_
  subst he
  exact ⟨_, rfl, _, _, _, [], _, [], hW', trodAll_mk1 (shut_bool Try.underlying4 _), (trodAll_cons_mk (Below.trod laidOut (by kernel_rfl) (of_decide_eq_true (by kernel_rfl)) k0 bel lt0) (trodAll_cons_mk (Below.trod laidOut (by kernel_rfl) (of_decide_eq_true (by kernel_rfl)) k1 bel lt1) trodAll_mk0)), rfl, bel.frame _, fun h => by cases h⟩

theorem over : Rows.setsSizesRow.holds Try.pinned (OpenSpec.ofChange Rows.setsSizesSpec) :=
  OpenClaim.holds_of_wide 7 Try.f7 rfl rfl rfl rfl rfl rfl rfl ⟨rfl, rfl, rfl, rfl, rfl⟩ rfl rfl rfl rfl rfl (by kernel_rfl) Try.func7 (by kernel_rfl)
    (of_decide_eq_true (by kernel_rfl)) (by unfold Func.isWrapper; first | (rw [if_pos (by decide +kernel)]; kernel_rfl) | (rw [if_neg (by decide +kernel)]; exact ⟨rfl, rfl⟩))
    (fun os started H enc _ => lifted os started H enc)

theorem proved : Rows.SetsSizesSaid := over
end setsSizes
theorem setsSizes_holds : Rows.SetsSizesSaid := setsSizes.proved
#print axioms setsSizes_holds
end Go.Proofs.Ytjpighkbfldloaa
