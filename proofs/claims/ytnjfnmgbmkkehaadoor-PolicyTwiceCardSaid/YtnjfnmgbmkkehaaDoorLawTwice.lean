/-
  The statement 'PolicyTwice' of layer 3: for every two numbers, a sample that comes again leaves what is there by First, Last, Min and Max, and Block tells that it is blocked.
  No condition on the arguments; the package's table of names is as the program's text lays it (the card ties that).
-/
import Derived.Test.YtnjfnmgbmkkehaaDoorPKnown
import Derived.Test.YtnjfnmgbmkkehaaDoorPLaid
import Derived.Test.YtnjfnmgbmkkehaaDoorTie
import Derived.Test.YtnjfnmgbmkkehaaDoorCards
import Derived.ShutString
import Derived.ChangeOld
import Derived.SevenTiedAt
namespace Go.Proofs.YtnjfnmgbmkkehaaDoor
namespace policyTwice
open Go.ChangeShapes Go.WideShapes Go.ChangeAt Go.RowKit
open Go.ChangeMaps (open_string shut_string)
set_option linter.unusedVariables false

theorem own : ownKnob Tryd.prog.godebug = none := by kernel_rfl

set_option maxRecDepth 100000 in
set_option maxHeartbeats 1000000 in
theorem walk0 (a b : Int) (w : World) (h : NamesAt w) (ha : in64 a) (hb : in64 b) :
    Calls Tryd.prog 8 #[.int .i64 a, .int .i64 b] w fun e w' => e = .returned (.bool true) ∧ Below w.heap.size w w' := by
  have H := Lib.hid h
  have HA := Lib.hid ha
  have HB := Lib.hid hb
  clear h ha hb
  go_enter Tryd.func8, Tryd.ntmps8
  go_wp2
  go_loop [5] (fun t => ∃ q : Int, 2 ≤ q ∧ q ≤ 6 ∧ t = .int .i64 q) (fun t => (6 - intOf t).toNat)
  case atStart => exact ⟨2, by omega, by omega, rfl⟩
  case round =>
    obtain ⟨q, hq1, hq2, rfl⟩ := hrel
    have hq : q = 2 ∨ q = 3 ∨ q = 4 ∨ q = 5 ∨ q = 6 := by omega
    rcases hq with rfl | rfl | rfl | rfl | rfl
    · have M1 := Lib.hid (show mergeS 2 a b = (a, 0) from rfl)
      have M2 := Lib.hid (show mergeS 2 a b = (a, 0) from rfl)
      have txx : (a != a) = false := by simp
      go_wp2_with fail
      refine (merge_any 2 a b _ HA.out HB.out).mono ?_
      rintro e w' ⟨rfl, rfl⟩
      rw [M1.out]
      unfold two
      go_wp2_with fail
      refine (merge_any 2 a b _ HA.out HB.out).mono ?_
      rintro e w' ⟨rfl, rfl⟩
      rw [M2.out]
      unfold two
      go_wp2
      go_round
      case rel => exact ⟨3, by omega, by omega, rfl⟩
      case measure => simp [intOf]
    · have M1 := Lib.hid (show mergeS 3 a b = (b, 0) from rfl)
      have M2 := Lib.hid (show mergeS 3 b b = (b, 0) from rfl)
      have txx : (b != b) = false := by simp
      go_wp2_with fail
      refine (merge_any 3 a b _ HA.out HB.out).mono ?_
      rintro e w' ⟨rfl, rfl⟩
      rw [M1.out]
      unfold two
      go_wp2_with fail
      refine (merge_any 3 b b _ HB.out HB.out).mono ?_
      rintro e w' ⟨rfl, rfl⟩
      rw [M2.out]
      unfold two
      go_wp2
      go_round
      case rel => exact ⟨4, by omega, by omega, rfl⟩
      case measure => simp [intOf]
    · obtain ⟨x, hx⟩ : ∃ x, x = min a b := ⟨_, rfl⟩
      have HX := Lib.hid hx
      have HI := Lib.hid (show in64 x from by have h1 := HA.out; have h2 := HB.out; unfold in64 at *; omega)
      clear hx
      have M1 := Lib.hid (show mergeS 4 a b = (x, 0) from by rw [HX.out]; rfl)
      have M2 := Lib.hid (show mergeS 4 x b = (x, 0) from by rw [HX.out]; show (min (min a b) b, (0 : Int)) = (min a b, 0); rw [show min (min a b) b = min a b from by omega])
      have txx : (x != x) = false := by simp
      go_wp2_with fail
      refine (merge_any 4 a b _ HA.out HB.out).mono ?_
      rintro e w' ⟨rfl, rfl⟩
      rw [M1.out]
      unfold two
      go_wp2_with fail
      refine (merge_any 4 x b _ HI.out HB.out).mono ?_
      rintro e w' ⟨rfl, rfl⟩
      rw [M2.out]
      unfold two
      go_wp2
      go_round
      case rel => exact ⟨5, by omega, by omega, rfl⟩
      case measure => simp [intOf]
    · obtain ⟨x, hx⟩ : ∃ x, x = max a b := ⟨_, rfl⟩
      have HX := Lib.hid hx
      have HI := Lib.hid (show in64 x from by have h1 := HA.out; have h2 := HB.out; unfold in64 at *; omega)
      clear hx
      have M1 := Lib.hid (show mergeS 5 a b = (x, 0) from by rw [HX.out]; rfl)
      have M2 := Lib.hid (show mergeS 5 x b = (x, 0) from by rw [HX.out]; show (max (max a b) b, (0 : Int)) = (max a b, 0); rw [show max (max a b) b = max a b from by omega])
      have txx : (x != x) = false := by simp
      go_wp2_with fail
      refine (merge_any 5 a b _ HA.out HB.out).mono ?_
      rintro e w' ⟨rfl, rfl⟩
      rw [M1.out]
      unfold two
      go_wp2_with fail
      refine (merge_any 5 x b _ HI.out HB.out).mono ?_
      rintro e w' ⟨rfl, rfl⟩
      rw [M2.out]
      unfold two
      go_wp2
      go_round
      case rel => exact ⟨6, by omega, by omega, rfl⟩
      case measure => simp [intOf]
    · go_wp2_with fail
      refine (merge_any 1 a b _ HA.out HB.out).mono ?_
      rintro e w' ⟨rfl, rfl⟩
      rw [show two (mergeS 1 a b) = .tuple #[.int .i64 0, .int .i64 8] from rfl]
      go_wp2_with fail
      refine (pknown_any _ H.out).mono ?_
      rintro e W2 ⟨rfl, b2⟩
      go_wp2
      go_ret
      exact ⟨rfl, b2⟩

theorem walk (a0 : Int) (a1 : Int) (w : World) (h : NamesAt w) (w0 : (Lit.int .i64 a0).wf = true) (w1 : (Lit.int .i64 a1).wf = true) :
    Calls Tryd.prog 8 #[.int .i64 a0, .int .i64 a1] w fun e w' => e = .returned (.bool true) ∧ Below w.heap.size w w' := by
  have b0 := bounds_i64 w0
  have b1 := bounds_i64 w1
  exact walk0 a0 a1 w h ⟨by omega, by omega⟩ ⟨by omega, by omega⟩

set_option maxRecDepth 100000 in
theorem lifted (os : Os) (started : os.Started) (H : Type) (enc : TypeId × Value → H) :
    ReturnsInHanded {} Tryd.checked os 8 .any (fun w args => (Rows.policyTwiceSpec.pre enc Tryd.prog Tryd.f8 [] false w args ∧ laidMetH Tryd.prog laidL w) ∧ sizedMet enc Tryd.prog Tryd.f8 (OpenSpec.ofChange Rows.policyTwiceSpec) false w args)
      (Rows.policyTwiceSpec.post enc Tryd.prog Tryd.f8 false true false false) := by
  refine returnsInHanded_of_change_and (C := Tryd.checked) (X := fun w _ => laidMetH Tryd.prog laidL w) (fun _ _ _ hh h => h.of_heap hh) own started (by kernel_rfl) Tryd.func8
    (ChangeSpec.witness_shaped (enc := enc) (C := Tryd.checked) (os := os) (X := fun w _ => laidMetH Tryd.prog laidL w) false (World.doorLaid Tryd.prog 400 os) #[.int .i64 0, .int .i64 0] 8 rfl (World.shaped_of_RefB (by kernel_rfl) (by kernel_rfl)) (by kernel_rfl) (by kernel_rfl) (by kernel_rfl) (door_met os _)) ?_
  intro W base args ds gs before hval0 hW _ _ hL _
  have hval : ∀ (j : Nat) t v, Tryd.f8.params[j]? = some t → args[j]? = some v → Value.okWide Tryd.prog W .any base t v := hval0
  have hW' := hW
  obtain ⟨p, q, hA0, hV, rfl, hfz, hnd⟩ := hW
  have hA : DataW.TrodAll enc Tryd.prog W 0 (fun _ => true) true Tryd.f8.params.toList args.toList ds p := hA0
  rw [Tryd.params8] at hA hval
  obtain ⟨v0, vs0, d0, ds0, p0, q0, hargs, rfl, rfl, h0, r0⟩ := trodAll_cons hA
  obtain ⟨v1, vs1, d1, ds1, p1, q1, rfl, rfl, rfl, h1, r1⟩ := trodAll_cons r0
  obtain ⟨rfl, rfl, rfl⟩ := trodAll_nil r1
  obtain rfl : args = #[v0, v1] := by cases args; simp_all
  obtain ⟨rfl, rfl⟩ := trodVars_none hV
  obtain ⟨a0, rfl, rfl, rfl, w0⟩ := open_int Tryd.underlying3 (hval 0 3 v0 rfl rfl) h0
  obtain ⟨a1, rfl, rfl, rfl, w1⟩ := open_int Tryd.underlying3 (hval 1 3 v1 rfl rfl) h1
  clear hA0 hval0
  refine (walk a0 a1 W (names_of_laid hL) w0 w1).mono fun e W' ⟨he, bel⟩ => ?_
  subst he
  exact ⟨_, rfl, _, _, _, [], _, [], hW', trodAll_mk1 (shut_bool Tryd.underlying4 _), (trodAll_cons_mk (shut_int Tryd.underlying3 w0) (trodAll_cons_mk (shut_int Tryd.underlying3 w1) trodAll_mk0)), rfl, bel.frame _, fun h => by cases h⟩

theorem over : Rows.policyTwiceRow.holds Tryd.pinned (OpenSpec.ofChange Rows.policyTwiceSpec) :=
  OpenClaim.holds_of_wide 8 Tryd.f8 rfl rfl rfl rfl rfl rfl rfl ⟨rfl, rfl, rfl, rfl, rfl⟩ rfl rfl rfl rfl rfl (by kernel_rfl) Tryd.func8 (by kernel_rfl)
    (of_decide_eq_true (by kernel_rfl)) (by unfold Func.isWrapper; first | (rw [if_pos (by decide +kernel)]; kernel_rfl) | (rw [if_neg (by decide +kernel)]; exact ⟨rfl, rfl⟩))
    (fun os started H enc _ => lifted os started H enc)

theorem proved : Rows.PolicyTwiceCardSaid :=
  Claim7.holds_tied_plain_at .later [] Rows.policyTwiceCard.laidKinds true Rows.policyTwiceCard.stood.harness false
    over (fun _ h => by cases h) (by kernel_rfl) (fun _ h => by cases h) policyTwice_row_tie rfl ⟨rfl, rfl⟩ (by kernel_rfl) rfl
    (fun f fn hf hfn => by
      obtain rfl : f = 8 := Option.some.inj ((show Tryd.prog.funcNamed "tachograph/tachographlaw03.PolicyTwice" = some 8 by kernel_rfl).symm.trans hf) |>.symm
      obtain rfl : fn = Tryd.f8 := (Option.some.inj (Tryd.func8.symm.trans hfn)).symm
      exact ⟨by kernel_rfl, fun j t ht => by
        rw [Tryd.params8] at ht
        have hm : t ∈ [3, 3] := by simpa using Array.mem_of_getElem? ht
        have hall : ([3, 3].all fun u => !Tryd.prog.wantsStandIn u) = true := by kernel_rfl
        exact (show Tryd.prog.wantsStandIn t = false by simpa using List.all_eq_true.1 hall t hm)⟩)
    (by kernel_rfl)
end policyTwice
theorem policyTwice_holds : Rows.PolicyTwiceCardSaid := policyTwice.proved
#print axioms policyTwice_holds
end Go.Proofs.YtnjfnmgbmkkehaaDoor
