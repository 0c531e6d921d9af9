/-
  The statement 'PolicyTells' of layer 3: for every number and every text, whether the number is a policy, its name, and the text's policy, is as the document says.
  No condition on the arguments; the package's table of names is as the program's text lays it (the card ties that).
-/
import Derived.Test.YtnjfnmgbmkkehaaDoorPKnown
import Derived.Test.YtnjfnmgbmkkehaaDoorPLaid
import Derived.Test.YtnjfnmgbmkkehaaDoorTie
import Derived.Test.YtnjfnmgbmkkehaaDoorCards
import Derived.Test.YtnjfnmgbmkkehaaDoorPRText
import Derived.ShutString
import Derived.ChangeOld
import Derived.SevenTiedAt
namespace Go.Proofs.YtnjfnmgbmkkehaaDoor
namespace policyTells
open Go.ChangeShapes Go.WideShapes Go.ChangeAt Go.RowKit
open Go.ChangeMaps (open_string shut_string)
set_option linter.unusedVariables false

theorem own : ownKnob Tryd.prog.godebug = none := by kernel_rfl

set_option maxRecDepth 100000 in
set_option maxHeartbeats 1000000 in
theorem walk0 (p : Int) (s : ByteArray) (w : World) (h : NamesAt w) :
    Calls Tryd.prog 3 #[.int .i64 p, .string s] w fun e w' => e = .returned (.bool true) ∧ Below w.heap.size w w' := by
  have H := Lib.hid h
  clear h
  by_cases hl : 100 < s.size
  · have hl' : (100 : Int) < (s.size : Int) := by omega
    go_enter Tryd.func3, Tryd.ntmps3
    go_wp2_with fail
    refine (pknown_any _ H.out).mono ?_
    rintro e W2 ⟨rfl, b2⟩
    go_wp2
    go_ret
    exact ⟨rfl, b2⟩
  · have hl' : ¬ (100 : Int) < (s.size : Int) := by omega
    obtain ⟨x1, x2, HX⟩ : ∃ x1 x2, Hid (parseS s = (x1, x2)) := ⟨_, _, Lib.hid rfl⟩
    have t1 : (x1 == x1) = true := by simp
    have t2 : (x2 == x2) = true := by simp
    obtain ⟨n, hn⟩ : ∃ n, n = nm p := ⟨_, rfl⟩
    have HN := Lib.hid hn
    have t3 : (n.toList == n.toList) = true := by simp
    have HT0 : Hid (decide (1 ≤ p ∧ p ≤ 6) = false → n.toList = []) := Lib.hid (by
      intro hd
      have hp : ¬ (1 ≤ p ∧ p ≤ 6) := of_decide_eq_false hd
      rw [hn, Lib.toList_data]
      rw [show nm p = ⟨#[]⟩ from by unfold nm; rw [if_neg (by omega), if_neg (by omega), if_neg (by omega), if_neg (by omega), if_neg (by omega), if_neg (by omega)]])
    have HT1 : Hid (decide (1 ≤ p ∧ p ≤ 6) = true → ¬ n.toList = []) := Lib.hid (by
      intro hd
      have hp : 1 ≤ p ∧ p ≤ 6 := of_decide_eq_true hd
      rw [hn, Lib.toList_data]
      have q : p = 1 ∨ p = 2 ∨ p = 3 ∨ p = 4 ∨ p = 5 ∨ p = 6 := by omega
      rcases q with rfl | rfl | rfl | rfl | rfl | rfl <;> decide)
    clear hn
    go_enter Tryd.func3, Tryd.ntmps3
    go_wp2_with fail
    refine (parse_any s _ H.out (by omega)).mono ?_
    rintro e W2 ⟨rfl, d2⟩
    have H2 := Lib.hid (H.out.below d2.below)
    have B2 := d2.below
    have s2 := B2.size
    clear d2
    rw [HX.out]
    unfold two
    go_wp2_with fail
    refine (rparse_any s _ (by omega)).mono ?_
    rintro e W3 ⟨rfl, b3⟩
    have H3 := Lib.hid (H2.out.below b3)
    have B3 := bel_gbn B2 s2 (gb_below b3)
    have s3 := B3.size
    clear b3 B2 s2 H2
    rw [HX.out]
    unfold two
    go_wp2_with fail
    refine (pright_any p _).mono ?_
    rintro e w' ⟨rfl, rfl⟩
    generalize decide (1 ≤ p ∧ p ≤ 6) = d at *
    go_wp2_with fail
    refine (rname_any p _).mono ?_
    rintro e W4 ⟨rfl, b4⟩
    have H4 := Lib.hid (H3.out.below b4)
    have B4 := bel_gbn B3 s3 (gb_below b4)
    have s4 := B4.size
    clear b4 B3 s3 H3
    rw [← HN.out]
    cases d
    · have t4 := HT0.out rfl
      clear HT0 HT1
      go_wp2_with fail
      refine (name_any p _ H4.out).mono ?_
      rintro e w' ⟨rfl, rfl⟩
      rw [← HN.out]
      go_wp2_with fail
      refine (rname_any p _).mono ?_
      rintro e W5 ⟨rfl, b5⟩
      have H5 := Lib.hid (H4.out.below b5)
      have B5 := bel_gbn B4 s4 (gb_below b5)
      have s5 := B5.size
      clear b5 B4 s4 H4
      rw [← HN.out]
      go_wp2_with fail
      refine (pknown_any _ H5.out).mono ?_
      rintro e W6 ⟨rfl, b6⟩
      have B6 := bel_gbn B5 s5 (gb_below b6)
      go_wp2
      go_ret
      exact ⟨rfl, B6⟩
    · have t4 := HT1.out rfl
      have t5 : n.toList.isEmpty = false := by simpa using t4
      clear HT0 HT1
      go_wp2_with fail
      refine (name_any p _ H4.out).mono ?_
      rintro e w' ⟨rfl, rfl⟩
      rw [← HN.out]
      go_wp2_with fail
      refine (rname_any p _).mono ?_
      rintro e W5 ⟨rfl, b5⟩
      have H5 := Lib.hid (H4.out.below b5)
      have B5 := bel_gbn B4 s4 (gb_below b5)
      have s5 := B5.size
      clear b5 B4 s4 H4
      rw [← HN.out]
      go_wp2_with fail
      refine (pknown_any _ H5.out).mono ?_
      rintro e W6 ⟨rfl, b6⟩
      have B6 := bel_gbn B5 s5 (gb_below b6)
      go_wp2
      go_ret
      exact ⟨rfl, B6⟩

theorem walk (a0 : Int) (a1 : ByteArray) (w : World) (h : NamesAt w) (w0 : (Lit.int .i64 a0).wf = true) (w1 : a1.size ≤ maxLen) :
    Calls Tryd.prog 3 #[.int .i64 a0, .string a1] w fun e w' => e = .returned (.bool true) ∧ Below w.heap.size w w' := by
  exact walk0 a0 a1 w h

set_option maxRecDepth 100000 in
theorem lifted (os : Os) (started : os.Started) (H : Type) (enc : TypeId × Value → H) :
    ReturnsInHanded {} Tryd.checked os 3 .any (fun w args => (Rows.policyTellsSpec.pre enc Tryd.prog Tryd.f3 [] false w args ∧ laidMetH Tryd.prog laidL w) ∧ sizedMet enc Tryd.prog Tryd.f3 (OpenSpec.ofChange Rows.policyTellsSpec) false w args)
      (Rows.policyTellsSpec.post enc Tryd.prog Tryd.f3 false true false false) := by
  refine returnsInHanded_of_change_and (C := Tryd.checked) (X := fun w _ => laidMetH Tryd.prog laidL w) (fun _ _ _ hh h => h.of_heap hh) own started (by kernel_rfl) Tryd.func3
    (ChangeSpec.witness_shaped (enc := enc) (C := Tryd.checked) (os := os) (X := fun w _ => laidMetH Tryd.prog laidL w) false (World.doorLaid Tryd.prog 400 os) #[.int .i64 0, .string ByteArray.empty] 8 rfl (World.shaped_of_RefB (by kernel_rfl) (by kernel_rfl)) (by kernel_rfl) (by kernel_rfl) (by kernel_rfl) (door_met os _)) ?_
  intro W base args ds gs before hval0 hW _ _ hL _
  have hval : ∀ (j : Nat) t v, Tryd.f3.params[j]? = some t → args[j]? = some v → Value.okWide Tryd.prog W .any base t v := hval0
  have hW' := hW
  obtain ⟨p, q, hA0, hV, rfl, hfz, hnd⟩ := hW
  have hA : DataW.TrodAll enc Tryd.prog W 0 (fun _ => true) true Tryd.f3.params.toList args.toList ds p := hA0
  rw [Tryd.params3] at hA hval
  obtain ⟨v0, vs0, d0, ds0, p0, q0, hargs, rfl, rfl, h0, r0⟩ := trodAll_cons hA
  obtain ⟨v1, vs1, d1, ds1, p1, q1, rfl, rfl, rfl, h1, r1⟩ := trodAll_cons r0
  obtain ⟨rfl, rfl, rfl⟩ := trodAll_nil r1
  obtain rfl : args = #[v0, v1] := by cases args; simp_all
  obtain ⟨rfl, rfl⟩ := trodVars_none hV
  obtain ⟨a0, rfl, rfl, rfl, w0⟩ := open_int Tryd.underlying3 (hval 0 3 v0 rfl rfl) h0
  obtain ⟨a1, rfl, rfl, rfl, w1⟩ := open_string Tryd.underlying9 (hval 1 9 v1 rfl rfl) h1
  clear hA0 hval0
  refine (walk a0 a1 W (names_of_laid hL) w0 w1).mono fun e W' ⟨he, bel⟩ => ?_
  subst he
  exact ⟨_, rfl, _, _, _, [], _, [], hW', trodAll_mk1 (shut_bool Tryd.underlying4 _), (trodAll_cons_mk (shut_int Tryd.underlying3 w0) (trodAll_cons_mk (shut_string Tryd.underlying9 w1) trodAll_mk0)), rfl, bel.frame _, fun h => by cases h⟩

theorem over : Rows.policyTellsRow.holds Tryd.pinned (OpenSpec.ofChange Rows.policyTellsSpec) :=
  OpenClaim.holds_of_wide 3 Tryd.f3 rfl rfl rfl rfl rfl rfl rfl ⟨rfl, rfl, rfl, rfl, rfl⟩ rfl rfl rfl rfl rfl (by kernel_rfl) Tryd.func3 (by kernel_rfl)
    (of_decide_eq_true (by kernel_rfl)) (by unfold Func.isWrapper; first | (rw [if_pos (by decide +kernel)]; kernel_rfl) | (rw [if_neg (by decide +kernel)]; exact ⟨rfl, rfl⟩))
    (fun os started H enc _ => lifted os started H enc)

theorem proved : Rows.PolicyTellsCardSaid :=
  Claim7.holds_tied_plain_at .later [] Rows.policyTellsCard.laidKinds true Rows.policyTellsCard.stood.harness false
    over (fun _ h => by cases h) (by kernel_rfl) (fun _ h => by cases h) policyTells_row_tie rfl ⟨rfl, rfl⟩ (by kernel_rfl) rfl
    (fun f fn hf hfn => by
      obtain rfl : f = 3 := Option.some.inj ((show Tryd.prog.funcNamed "tachograph/tachographlaw03.PolicyTells" = some 3 by kernel_rfl).symm.trans hf) |>.symm
      obtain rfl : fn = Tryd.f3 := (Option.some.inj (Tryd.func3.symm.trans hfn)).symm
      exact ⟨by kernel_rfl, fun j t ht => by
        rw [Tryd.params3] at ht
        have hm : t ∈ [3, 9] := by simpa using Array.mem_of_getElem? ht
        have hall : ([3, 9].all fun u => !Tryd.prog.wantsStandIn u) = true := by kernel_rfl
        exact (show Tryd.prog.wantsStandIn t = false by simpa using List.all_eq_true.1 hall t hm)⟩)
    (by kernel_rfl)
end policyTells
theorem policyTells_holds : Rows.PolicyTellsCardSaid := policyTells.proved
#print axioms policyTells_holds
end Go.Proofs.YtnjfnmgbmkkehaaDoor
