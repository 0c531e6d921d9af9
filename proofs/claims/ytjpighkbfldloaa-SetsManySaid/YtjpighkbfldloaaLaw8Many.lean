/-
  The statement 'SetsMany' of layer 8: And, Or and Less with the list itself, or with none, are the list, or none.
  No condition on the arguments.
-/
import Derived.Test.YtjpighkbfldloaaEKnown
import Derived.Test.YtjpighkbfldloaaEArgs
import Derived.Test.YtjpighkbfldloaaRows
import Derived.ChangeOld
namespace Go.Proofs.Ytjpighkbfldloaa
namespace setsMany
open Go.ChangeShapes Go.WideShapes Go.ChangeAt Go.RowKit
open Go.ChangeMaps (open_string shut_string)
set_option linter.unusedVariables false
set_option linter.unusedSimpArgs false

theorem own : ownKnob Try.prog.godebug = none := by kernel_rfl


theorem and_self_ (x : List Tx) : andL x x = canon x := ss_ext (take_ss ..) (canon_ss x) (fun z => by rw [mem_and, mem_canon]; exact and_self_iff)
theorem or_self_ (x : List Tx) : orL x x = canon x := ss_ext (take_ss ..) (canon_ss x) (fun z => by rw [mem_or, mem_canon]; exact or_self_iff)
theorem less_self_ (x : List Tx) : lessL x x = [] := ss_ext (take_ss ..) ss_nil (fun z => by rw [mem_less]; simp)
theorem and_none (x : List Tx) : andL x [] = [] := ss_ext (take_ss ..) ss_nil (fun z => by rw [mem_and]; simp)
theorem or_none (x : List Tx) : orL x [] = canon x := ss_ext (take_ss ..) (canon_ss x) (fun z => by rw [mem_or, mem_canon]; simp)
theorem less_none (x : List Tx) : lessL x [] = canon x := ss_ext (take_ss ..) (canon_ss x) (fun z => by rw [mem_less, mem_canon]; simp)
theorem none_less (x : List Tx) : lessL [] x = [] := ss_ext (take_ss ..) ss_nil (fun z => by rw [mem_less]; simp)

set_option maxRecDepth 100000 in
set_option maxHeartbeats 16000000 in
theorem walk0 (s0 : Option Addr) (n0 c0 : Nat) (x : List Tx) (w : World) (h0 : TxAt w s0 n0 c0 x ∧ Sh x) :
    Calls Try.prog 8 #[.slice s0 n0 c0] w fun e w' => e = .returned (.bool true) ∧ Below w.heap.size w w' := by
  have Tf0 := Lib.hid h0.1
  have S0 := Lib.hid h0.2
  clear h0
  by_cases lx0 : lightL x
  · have LX0 := Lib.hid lx0
    clear lx0
    go_enter Try.func8, Try.ntmps8
    have B := Lib.hid (Below.refl w.heap.size w)
    go_wp2_with fail
    have C := light8_any s0 n0 c0 (x) w Tf0.out S0.out
    rw [decide_eq_true LX0.out] at C
    refine C.mono ?_
    clear C
    rintro e w' ⟨rfl, rfl⟩
    go_wp2_with fail
    refine (of_any s0 n0 c0 (x) w Tf0.out (by have h0 := Tf0.out.1; have g0 : (x).length ≤ 40 := (LX0.out.1); omega)).mono ?_
    intro e W1 hm
    obtain ⟨a_q, c_q, rfl, Tq, br⟩ := hm.to
    clear hm
    replace Tq := Lib.hid Tq
    replace B := Lib.hid (B.out.trans (br.mono B.out.size))
    replace Tf0 := Lib.hid (Tf0.out.keep br)
    clear br
    generalize (canon (x)).length = n_q at *
    go_wp2_with fail
    refine (and8_any s0 n0 c0 (x) s0 n0 c0 (x) W1 Tf0.out Tf0.out (by have h0 := Tf0.out.1; have g0 : (x).length ≤ 40 := (LX0.out.1); have h1 := Tf0.out.1; have g1 : (x).length ≤ 40 := (LX0.out.1); omega)).mono ?_
    intro e W2 hm
    obtain ⟨a_u1, c_u1, rfl, Tu1, br⟩ := hm.to
    clear hm
    replace Tu1 := Lib.hid Tu1
    replace B := Lib.hid (B.out.trans (br.mono B.out.size))
    replace Tf0 := Lib.hid (Tf0.out.keep br)
    replace Tq := Lib.hid (Tq.out.keep br)
    clear br
    generalize (andL (x) (x)).length = n_u1 at *
    go_wp2_with fail
    have C := same8_any a_u1 n_u1 c_u1 (andL (x) (x)) a_q n_q c_q (canon (x)) W2 Tu1.out Tq.out
    rw [decide_eq_true (show (andL (x) (x)) = (canon (x)) from and_self_ _)] at C
    refine C.mono ?_
    clear C
    rintro e W3 ⟨rfl, hd⟩
    have br := hd.bel
    clear hd
    replace B := Lib.hid (B.out.trans (br.mono B.out.size))
    replace Tf0 := Lib.hid (Tf0.out.keep br)
    replace Tq := Lib.hid (Tq.out.keep br)
    replace Tu1 := Lib.hid (Tu1.out.keep br)
    clear br
    clear Tu1
    go_wp2_with fail
    refine (or8_any s0 n0 c0 (x) s0 n0 c0 (x) W3 Tf0.out Tf0.out (by have h0 := Tf0.out.1; have g0 : (x).length ≤ 40 := (LX0.out.1); have h1 := Tf0.out.1; have g1 : (x).length ≤ 40 := (LX0.out.1); omega)).mono ?_
    intro e W4 hm
    obtain ⟨a_u2, c_u2, rfl, Tu2, br⟩ := hm.to
    clear hm
    replace Tu2 := Lib.hid Tu2
    replace B := Lib.hid (B.out.trans (br.mono B.out.size))
    replace Tf0 := Lib.hid (Tf0.out.keep br)
    replace Tq := Lib.hid (Tq.out.keep br)
    clear br
    generalize (orL (x) (x)).length = n_u2 at *
    go_wp2_with fail
    have C := same8_any a_u2 n_u2 c_u2 (orL (x) (x)) a_q n_q c_q (canon (x)) W4 Tu2.out Tq.out
    rw [decide_eq_true (show (orL (x) (x)) = (canon (x)) from or_self_ _)] at C
    refine C.mono ?_
    clear C
    rintro e W5 ⟨rfl, hd⟩
    have br := hd.bel
    clear hd
    replace B := Lib.hid (B.out.trans (br.mono B.out.size))
    replace Tf0 := Lib.hid (Tf0.out.keep br)
    replace Tq := Lib.hid (Tq.out.keep br)
    replace Tu2 := Lib.hid (Tu2.out.keep br)
    clear br
    clear Tu2
    go_wp2_with fail
    refine (less8_any s0 n0 c0 (x) s0 n0 c0 (x) W5 Tf0.out Tf0.out (by have h0 := Tf0.out.1; have g0 : (x).length ≤ 40 := (LX0.out.1); have h1 := Tf0.out.1; have g1 : (x).length ≤ 40 := (LX0.out.1); omega)).mono ?_
    intro e W6 hm
    obtain ⟨a_u3, c_u3, rfl, Tu3, br⟩ := hm.to
    clear hm
    replace Tu3 := Lib.hid Tu3
    replace B := Lib.hid (B.out.trans (br.mono B.out.size))
    replace Tf0 := Lib.hid (Tf0.out.keep br)
    replace Tq := Lib.hid (Tq.out.keep br)
    clear br
    generalize (lessL (x) (x)).length = n_u3 at *
    have e0 : n_u3 = 0 := by rw [← Tu3.out.1, less_self_]; rfl
    have tz : ((n_u3 : Int) == 0) = true := by rw [e0]; rfl
    clear e0
    go_wp2_with fail
    refine (and8_any s0 n0 c0 (x) none 0 0 (([] : List Tx)) W6 Tf0.out (TxAt.nil _ _ _) (by have h0 := Tf0.out.1; have g0 : (x).length ≤ 40 := (LX0.out.1); omega)).mono ?_
    intro e W7 hm
    obtain ⟨a_u4, c_u4, rfl, Tu4, br⟩ := hm.to
    clear hm
    replace Tu4 := Lib.hid Tu4
    replace B := Lib.hid (B.out.trans (br.mono B.out.size))
    replace Tf0 := Lib.hid (Tf0.out.keep br)
    replace Tq := Lib.hid (Tq.out.keep br)
    replace Tu3 := Lib.hid (Tu3.out.keep br)
    clear br
    generalize (andL (x) (([] : List Tx))).length = n_u4 at *
    have e0 : n_u4 = 0 := by rw [← Tu4.out.1, and_none]; rfl
    have tz : ((n_u4 : Int) == 0) = true := by rw [e0]; rfl
    clear e0
    go_wp2_with fail
    refine (or8_any s0 n0 c0 (x) none 0 0 (([] : List Tx)) W7 Tf0.out (TxAt.nil _ _ _) (by have h0 := Tf0.out.1; have g0 : (x).length ≤ 40 := (LX0.out.1); omega)).mono ?_
    intro e W8 hm
    obtain ⟨a_u5, c_u5, rfl, Tu5, br⟩ := hm.to
    clear hm
    replace Tu5 := Lib.hid Tu5
    replace B := Lib.hid (B.out.trans (br.mono B.out.size))
    replace Tf0 := Lib.hid (Tf0.out.keep br)
    replace Tq := Lib.hid (Tq.out.keep br)
    replace Tu3 := Lib.hid (Tu3.out.keep br)
    replace Tu4 := Lib.hid (Tu4.out.keep br)
    clear br
    generalize (orL (x) (([] : List Tx))).length = n_u5 at *
    go_wp2_with fail
    have C := same8_any a_u5 n_u5 c_u5 (orL (x) (([] : List Tx))) a_q n_q c_q (canon (x)) W8 Tu5.out Tq.out
    rw [decide_eq_true (show (orL (x) (([] : List Tx))) = (canon (x)) from or_none _)] at C
    refine C.mono ?_
    clear C
    rintro e W9 ⟨rfl, hd⟩
    have br := hd.bel
    clear hd
    replace B := Lib.hid (B.out.trans (br.mono B.out.size))
    replace Tf0 := Lib.hid (Tf0.out.keep br)
    replace Tq := Lib.hid (Tq.out.keep br)
    replace Tu3 := Lib.hid (Tu3.out.keep br)
    replace Tu4 := Lib.hid (Tu4.out.keep br)
    replace Tu5 := Lib.hid (Tu5.out.keep br)
    clear br
    clear Tu5
    go_wp2_with fail
    refine (less8_any s0 n0 c0 (x) none 0 0 (([] : List Tx)) W9 Tf0.out (TxAt.nil _ _ _) (by have h0 := Tf0.out.1; have g0 : (x).length ≤ 40 := (LX0.out.1); omega)).mono ?_
    intro e W10 hm
    obtain ⟨a_u6, c_u6, rfl, Tu6, br⟩ := hm.to
    clear hm
    replace Tu6 := Lib.hid Tu6
    replace B := Lib.hid (B.out.trans (br.mono B.out.size))
    replace Tf0 := Lib.hid (Tf0.out.keep br)
    replace Tq := Lib.hid (Tq.out.keep br)
    replace Tu3 := Lib.hid (Tu3.out.keep br)
    replace Tu4 := Lib.hid (Tu4.out.keep br)
    clear br
    generalize (lessL (x) (([] : List Tx))).length = n_u6 at *
    go_wp2_with fail
    have C := same8_any a_u6 n_u6 c_u6 (lessL (x) (([] : List Tx))) a_q n_q c_q (canon (x)) W10 Tu6.out Tq.out
    rw [decide_eq_true (show (lessL (x) (([] : List Tx))) = (canon (x)) from less_none _)] at C
    refine C.mono ?_
    clear C
    rintro e W11 ⟨rfl, hd⟩
    have br := hd.bel
    clear hd
    replace B := Lib.hid (B.out.trans (br.mono B.out.size))
    replace Tf0 := Lib.hid (Tf0.out.keep br)
    replace Tq := Lib.hid (Tq.out.keep br)
    replace Tu3 := Lib.hid (Tu3.out.keep br)
    replace Tu4 := Lib.hid (Tu4.out.keep br)
    replace Tu6 := Lib.hid (Tu6.out.keep br)
    clear br
    clear Tu6
    go_wp2_with fail
    refine (less8_any none 0 0 (([] : List Tx)) s0 n0 c0 (x) W11 (TxAt.nil _ _ _) Tf0.out (by have h0 := Tf0.out.1; have g0 : (x).length ≤ 40 := (LX0.out.1); omega)).mono ?_
    intro e W12 hm
    obtain ⟨a_u7, c_u7, rfl, Tu7, br⟩ := hm.to
    clear hm
    replace Tu7 := Lib.hid Tu7
    replace B := Lib.hid (B.out.trans (br.mono B.out.size))
    replace Tf0 := Lib.hid (Tf0.out.keep br)
    replace Tq := Lib.hid (Tq.out.keep br)
    replace Tu3 := Lib.hid (Tu3.out.keep br)
    replace Tu4 := Lib.hid (Tu4.out.keep br)
    clear br
    generalize (lessL (([] : List Tx)) (x)).length = n_u7 at *
    have e0 : n_u7 = 0 := by rw [← Tu7.out.1, none_less]; rfl
    have tz : ((n_u7 : Int) == 0) = true := by rw [e0]; rfl
    clear e0
    go_wp2_with fail
    refine (eknown_any _).mono ?_
    rintro e W13 ⟨rfl, br⟩
    replace B := Lib.hid (B.out.trans (br.mono B.out.size))
    clear br
    go_wp2
    go_ret
    exact ⟨rfl, B.out⟩

  · have LX0 := Lib.hid lx0
    clear lx0
    go_enter Try.func8, Try.ntmps8
    have B := Lib.hid (Below.refl w.heap.size w)
    go_wp2_with fail
    have C := light8_any s0 n0 c0 (x) w Tf0.out S0.out
    rw [decide_eq_false LX0.out] at C
    refine C.mono ?_
    clear C
    rintro e w' ⟨rfl, rfl⟩
    go_wp2_with fail
    refine (eknown_any _).mono ?_
    rintro e W1 ⟨rfl, br⟩
    replace B := Lib.hid (B.out.trans (br.mono B.out.size))
    clear br
    go_wp2
    go_ret
    exact ⟨rfl, B.out⟩

theorem walk (s0 : Option Addr) (n0 c0 : Nat) (x : List Tx) (w : World) (h0 : TxAt w s0 n0 c0 x ∧ Sh x) :
    Calls Try.prog 8 #[.slice s0 n0 c0] w fun e w' => e = .returned (.bool true) ∧ Below w.heap.size w w' := walk0 s0 n0 c0 x w h0

set_option maxRecDepth 100000 in
theorem lifted (os : Os) (started : os.Started) (H : Type) (enc : TypeId × Value → H) :
    ReturnsInHanded {} Try.checked os 8 .any (Rows.setsManySpec.pre6 enc Try.prog Try.f8 Rows.setsManyRow.domain false) (Rows.setsManySpec.post enc Try.prog Try.f8 false true false false) := by
  refine returnsInHanded_of_change (C := Try.checked) own started (by kernel_rfl) Try.func8
    (ChangeSpec.witness6 (enc := enc) (C := Try.checked) false ⟨#[], #[.slice none 0 0], []⟩ 8 (by kernel_rfl) (by kernel_rfl) (by kernel_rfl) (by kernel_rfl)) ?_
  intro W base args ds gs before hval0 hW hcnd _
  have hval : ∀ (j : Nat) t v, Try.f8.params[j]? = some t → args[j]? = some v → Value.okWide Try.prog W .any base t v := hval0
  have hW' := hW
  obtain ⟨p, q, hA0, hV, rfl, hfz, hnd⟩ := hW
  have hA : DataW.TrodAll enc Try.prog W 0 (fun _ => true) true Try.f8.params.toList args.toList ds p := hA0
  rw [Try.params8] at hA hval
  obtain ⟨v0, vs0, d0, ds0, p0, q0, hargs, rfl, rfl, h0, r0⟩ := trodAll_cons hA
  obtain ⟨rfl, rfl, rfl⟩ := trodAll_nil r0
  obtain rfl : args = #[v0] := by cases args; simp_all
  obtain ⟨rfl, rfl⟩ := trodVars_none hV
  obtain ⟨a0, len0, cap0, rfl⟩ := okWide_slice Try.underlying22 (hval 0 22 v0 rfl rfl)
  have k0 := h0
  have lt0 : ∀ x ∈ p0, x.block < W.heap.size := by obtain ⟨m, hm⟩ := k0; exact DataW.trod_lt m _ _ _ hm
  obtain ⟨z0, w0⟩ := open_strs h0
  clear hA0 hval0
  refine (walk a0 len0 cap0 z0 W w0).mono fun e W' ⟨he, bel⟩ => ?_
  subst he
  exact ⟨_, rfl, _, _, _, [], _, [], hW', trodAll_mk1 (shut_bool Try.underlying4 _), (trodAll_cons_mk (Below.trod laidOut (by kernel_rfl) (of_decide_eq_true (by kernel_rfl)) k0 bel lt0) trodAll_mk0), rfl, bel.frame _, fun h => by cases h⟩

theorem over : Rows.setsManyRow.holds Try.pinned (OpenSpec.ofChange Rows.setsManySpec) :=
  OpenClaim.holds_of_wide 8 Try.f8 rfl rfl rfl rfl rfl rfl rfl ⟨rfl, rfl, rfl, rfl, rfl⟩ rfl rfl rfl rfl rfl (by kernel_rfl) Try.func8 (by kernel_rfl)
    (of_decide_eq_true (by kernel_rfl)) (by unfold Func.isWrapper; first | (rw [if_pos (by decide +kernel)]; kernel_rfl) | (rw [if_neg (by decide +kernel)]; exact ⟨rfl, rfl⟩))
    (fun os started H enc _ => lifted os started H enc)

theorem proved : Rows.SetsManySaid := over
end setsMany
theorem setsMany_holds : Rows.SetsManySaid := setsMany.proved
#print axioms setsMany_holds
end Go.Proofs.Ytjpighkbfldloaa
