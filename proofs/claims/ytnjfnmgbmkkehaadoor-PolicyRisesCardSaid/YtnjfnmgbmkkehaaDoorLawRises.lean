/-
  The statement 'PolicyRises' of layer 3: for every three numbers, a greater number makes no lesser capped sum; Cap does not hang on the order, and leaves a number that 0 is added to.
  No condition on the arguments; the package's table of names is as the program's text lays it (the card ties that).
-/
import Derived.Test.YtnjfnmgbmkkehaaDoorPKnown
import Derived.Test.YtnjfnmgbmkkehaaDoorPLaid
import Derived.Test.YtnjfnmgbmkkehaaDoorTie
import Derived.Test.YtnjfnmgbmkkehaaDoorCards
import Derived.ShutString
import Derived.ChangeOld
import Derived.SevenTiedAt
namespace Go.Proofs.YtnjfnmgbmkkehaaDoor
namespace policyRises
open Go.ChangeShapes Go.WideShapes Go.ChangeAt Go.RowKit
open Go.ChangeMaps (open_string shut_string)
set_option linter.unusedVariables false

theorem own : ownKnob Tryd.prog.godebug = none := by kernel_rfl

theorem cap_le (a b c : Int) (h : a ≤ b) : capS a c ≤ capS b c := by unfold capS; (repeat' split) <;> omega
theorem cap_comm (a b : Int) : capS a b = capS b a := by unfold capS; rw [Int.add_comm]
theorem cap_zero (a : Int) (ha : in64 a) : capS a 0 = a := by unfold in64 at ha; unfold capS; (repeat' split) <;> omega

set_option maxRecDepth 100000 in
set_option maxHeartbeats 1000000 in
theorem walk0 (a b c : Int) (w : World) (h : NamesAt w) (ha : in64 a) (hb : in64 b) (hc : in64 c) :
    Calls Tryd.prog 9 #[.int .i64 a, .int .i64 b, .int .i64 c] w fun e w' => e = .returned (.bool true) ∧ Below w.heap.size w w' := by
  have H := Lib.hid h
  have HA := Lib.hid ha
  have HB := Lib.hid hb
  have HC := Lib.hid hc
  clear h ha hb hc
  have ta : (a == a) = true := by simp
  by_cases hab : a ≤ b
  · by_cases hba : b ≤ a
    · obtain rfl : a = b := by omega
      have HL := Lib.hid (cap_le a a c (by omega))
      go_enter Tryd.func9, Tryd.ntmps9
      go_wp2_with fail
      refine (cap_any a c _ HA.out HC.out).mono ?_
      rintro e w' ⟨rfl, rfl⟩
      obtain ⟨x, hx⟩ : ∃ x, x = capS a c := ⟨_, rfl⟩
      rw [← hx]
      have HX := Lib.hid hx
      clear hx
      go_wp2_with fail
      refine (cap_any a c _ HA.out HC.out).mono ?_
      rintro e w' ⟨rfl, rfl⟩
      obtain ⟨y, hy⟩ : ∃ y, y = capS a c := ⟨_, rfl⟩
      rw [← hy]
      have HY := Lib.hid hy
      clear hy
      have txy : x ≤ y := by rw [HX.out, HY.out]; exact HL.out
      go_wp2_with fail
      refine (cap_any a c _ HA.out HC.out).mono ?_
      rintro e w' ⟨rfl, rfl⟩
      obtain ⟨z, hz⟩ : ∃ z, z = capS a c := ⟨_, rfl⟩
      rw [← hz]
      have HZ := Lib.hid hz
      clear hz
      go_wp2_with fail
      refine (cap_any c a _ HC.out HA.out).mono ?_
      rintro e w' ⟨rfl, rfl⟩
      rw [cap_comm c a, ← HZ.out]
      have tz : (z == z) = true := by simp
      go_wp2_with fail
      refine (cap_any a 0 _ HA.out (by unfold in64; omega)).mono ?_
      rintro e w' ⟨rfl, rfl⟩
      rw [cap_zero a HA.out]
      go_wp2_with fail
      refine (pknown_any _ H.out).mono ?_
      rintro e W2 ⟨rfl, b2⟩
      go_wp2
      go_ret
      exact ⟨rfl, b2⟩
    · have HL := Lib.hid (cap_le a b c (by omega))
      go_enter Tryd.func9, Tryd.ntmps9
      go_wp2_with fail
      refine (cap_any a c _ HA.out HC.out).mono ?_
      rintro e w' ⟨rfl, rfl⟩
      obtain ⟨x, hx⟩ : ∃ x, x = capS a c := ⟨_, rfl⟩
      rw [← hx]
      have HX := Lib.hid hx
      clear hx
      go_wp2_with fail
      refine (cap_any b c _ HB.out HC.out).mono ?_
      rintro e w' ⟨rfl, rfl⟩
      obtain ⟨y, hy⟩ : ∃ y, y = capS b c := ⟨_, rfl⟩
      rw [← hy]
      have HY := Lib.hid hy
      clear hy
      have txy : x ≤ y := by rw [HX.out, HY.out]; exact HL.out
      go_wp2_with fail
      refine (cap_any a c _ HA.out HC.out).mono ?_
      rintro e w' ⟨rfl, rfl⟩
      obtain ⟨z, hz⟩ : ∃ z, z = capS a c := ⟨_, rfl⟩
      rw [← hz]
      have HZ := Lib.hid hz
      clear hz
      go_wp2_with fail
      refine (cap_any c a _ HC.out HA.out).mono ?_
      rintro e w' ⟨rfl, rfl⟩
      rw [cap_comm c a, ← HZ.out]
      have tz : (z == z) = true := by simp
      go_wp2_with fail
      refine (cap_any a 0 _ HA.out (by unfold in64; omega)).mono ?_
      rintro e w' ⟨rfl, rfl⟩
      rw [cap_zero a HA.out]
      go_wp2_with fail
      refine (pknown_any _ H.out).mono ?_
      rintro e W2 ⟨rfl, b2⟩
      go_wp2
      go_ret
      exact ⟨rfl, b2⟩
  · have hba : b ≤ a := by omega
    have HL := Lib.hid (cap_le b a c (by omega))
    go_enter Tryd.func9, Tryd.ntmps9
    go_wp2_with fail
    refine (cap_any b c _ HB.out HC.out).mono ?_
    rintro e w' ⟨rfl, rfl⟩
    obtain ⟨x, hx⟩ : ∃ x, x = capS b c := ⟨_, rfl⟩
    rw [← hx]
    have HX := Lib.hid hx
    clear hx
    go_wp2_with fail
    refine (cap_any a c _ HA.out HC.out).mono ?_
    rintro e w' ⟨rfl, rfl⟩
    obtain ⟨y, hy⟩ : ∃ y, y = capS a c := ⟨_, rfl⟩
    rw [← hy]
    have HY := Lib.hid hy
    clear hy
    have txy : x ≤ y := by rw [HX.out, HY.out]; exact HL.out
    go_wp2_with fail
    refine (cap_any a c _ HA.out HC.out).mono ?_
    rintro e w' ⟨rfl, rfl⟩
    obtain ⟨z, hz⟩ : ∃ z, z = capS a c := ⟨_, rfl⟩
    rw [← hz]
    have HZ := Lib.hid hz
    clear hz
    go_wp2_with fail
    refine (cap_any c a _ HC.out HA.out).mono ?_
    rintro e w' ⟨rfl, rfl⟩
    rw [cap_comm c a, ← HZ.out]
    have tz : (z == z) = true := by simp
    go_wp2_with fail
    refine (cap_any a 0 _ HA.out (by unfold in64; omega)).mono ?_
    rintro e w' ⟨rfl, rfl⟩
    rw [cap_zero a HA.out]
    go_wp2_with fail
    refine (pknown_any _ H.out).mono ?_
    rintro e W2 ⟨rfl, b2⟩
    go_wp2
    go_ret
    exact ⟨rfl, b2⟩

theorem walk (a0 : Int) (a1 : Int) (a2 : Int) (w : World) (h : NamesAt w) (w0 : (Lit.int .i64 a0).wf = true) (w1 : (Lit.int .i64 a1).wf = true) (w2 : (Lit.int .i64 a2).wf = true) :
    Calls Tryd.prog 9 #[.int .i64 a0, .int .i64 a1, .int .i64 a2] w fun e w' => e = .returned (.bool true) ∧ Below w.heap.size w w' := by
  have b0 := bounds_i64 w0
  have b1 := bounds_i64 w1
  have b2 := bounds_i64 w2
  exact walk0 a0 a1 a2 w h ⟨by omega, by omega⟩ ⟨by omega, by omega⟩ ⟨by omega, by omega⟩

set_option maxRecDepth 100000 in
theorem lifted (os : Os) (started : os.Started) (H : Type) (enc : TypeId × Value → H) :
    ReturnsInHanded {} Tryd.checked os 9 .any (fun w args => (Rows.policyRisesSpec.pre enc Tryd.prog Tryd.f9 [] false w args ∧ laidMetH Tryd.prog laidL w) ∧ sizedMet enc Tryd.prog Tryd.f9 (OpenSpec.ofChange Rows.policyRisesSpec) false w args)
      (Rows.policyRisesSpec.post enc Tryd.prog Tryd.f9 false true false false) := by
  refine returnsInHanded_of_change_and (C := Tryd.checked) (X := fun w _ => laidMetH Tryd.prog laidL w) (fun _ _ _ hh h => h.of_heap hh) own started (by kernel_rfl) Tryd.func9
    (ChangeSpec.witness_shaped (enc := enc) (C := Tryd.checked) (os := os) (X := fun w _ => laidMetH Tryd.prog laidL w) false (World.doorLaid Tryd.prog 400 os) #[.int .i64 0, .int .i64 0, .int .i64 0] 8 rfl (World.shaped_of_RefB (by kernel_rfl) (by kernel_rfl)) (by kernel_rfl) (by kernel_rfl) (by kernel_rfl) (door_met os _)) ?_
  intro W base args ds gs before hval0 hW _ _ hL _
  have hval : ∀ (j : Nat) t v, Tryd.f9.params[j]? = some t → args[j]? = some v → Value.okWide Tryd.prog W .any base t v := hval0
  have hW' := hW
  obtain ⟨p, q, hA0, hV, rfl, hfz, hnd⟩ := hW
  have hA : DataW.TrodAll enc Tryd.prog W 0 (fun _ => true) true Tryd.f9.params.toList args.toList ds p := hA0
  rw [Tryd.params9] at hA hval
  obtain ⟨v0, vs0, d0, ds0, p0, q0, hargs, rfl, rfl, h0, r0⟩ := trodAll_cons hA
  obtain ⟨v1, vs1, d1, ds1, p1, q1, rfl, rfl, rfl, h1, r1⟩ := trodAll_cons r0
  obtain ⟨v2, vs2, d2, ds2, p2, q2, rfl, rfl, rfl, h2, r2⟩ := trodAll_cons r1
  obtain ⟨rfl, rfl, rfl⟩ := trodAll_nil r2
  obtain rfl : args = #[v0, v1, v2] := by cases args; simp_all
  obtain ⟨rfl, rfl⟩ := trodVars_none hV
  obtain ⟨a0, rfl, rfl, rfl, w0⟩ := open_int Tryd.underlying3 (hval 0 3 v0 rfl rfl) h0
  obtain ⟨a1, rfl, rfl, rfl, w1⟩ := open_int Tryd.underlying3 (hval 1 3 v1 rfl rfl) h1
  obtain ⟨a2, rfl, rfl, rfl, w2⟩ := open_int Tryd.underlying3 (hval 2 3 v2 rfl rfl) h2
  clear hA0 hval0
  refine (walk a0 a1 a2 W (names_of_laid hL) w0 w1 w2).mono fun e W' ⟨he, bel⟩ => ?_
  subst he
  exact ⟨_, rfl, _, _, _, [], _, [], hW', trodAll_mk1 (shut_bool Tryd.underlying4 _), (trodAll_cons_mk (shut_int Tryd.underlying3 w0) (trodAll_cons_mk (shut_int Tryd.underlying3 w1) (trodAll_cons_mk (shut_int Tryd.underlying3 w2) trodAll_mk0))), rfl, bel.frame _, fun h => by cases h⟩

theorem over : Rows.policyRisesRow.holds Tryd.pinned (OpenSpec.ofChange Rows.policyRisesSpec) :=
  OpenClaim.holds_of_wide 9 Tryd.f9 rfl rfl rfl rfl rfl rfl rfl ⟨rfl, rfl, rfl, rfl, rfl⟩ rfl rfl rfl rfl rfl (by kernel_rfl) Tryd.func9 (by kernel_rfl)
    (of_decide_eq_true (by kernel_rfl)) (by unfold Func.isWrapper; first | (rw [if_pos (by decide +kernel)]; kernel_rfl) | (rw [if_neg (by decide +kernel)]; exact ⟨rfl, rfl⟩))
    (fun os started H enc _ => lifted os started H enc)

theorem proved : Rows.PolicyRisesCardSaid :=
  Claim7.holds_tied_plain_at .later [] Rows.policyRisesCard.laidKinds true Rows.policyRisesCard.stood.harness false
    over (fun _ h => by cases h) (by kernel_rfl) (fun _ h => by cases h) policyRises_row_tie rfl ⟨rfl, rfl⟩ (by kernel_rfl) rfl
    (fun f fn hf hfn => by
      obtain rfl : f = 9 := Option.some.inj ((show Tryd.prog.funcNamed "tachograph/tachographlaw03.PolicyRises" = some 9 by kernel_rfl).symm.trans hf) |>.symm
      obtain rfl : fn = Tryd.f9 := (Option.some.inj (Tryd.func9.symm.trans hfn)).symm
      exact ⟨by kernel_rfl, fun j t ht => by
        rw [Tryd.params9] at ht
        have hm : t ∈ [3, 3, 3] := by simpa using Array.mem_of_getElem? ht
        have hall : ([3, 3, 3].all fun u => !Tryd.prog.wantsStandIn u) = true := by kernel_rfl
        exact (show Tryd.prog.wantsStandIn t = false by simpa using List.all_eq_true.1 hall t hm)⟩)
    (by kernel_rfl)
end policyRises
theorem policyRises_holds : Rows.PolicyRisesCardSaid := policyRises.proved
#print axioms policyRises_holds
end Go.Proofs.YtnjfnmgbmkkehaaDoor
