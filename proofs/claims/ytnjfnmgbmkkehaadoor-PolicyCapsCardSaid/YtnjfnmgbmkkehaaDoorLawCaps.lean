/-
  The statement 'PolicyCaps' of layer 3: for every two numbers, a sum that is too large, or too small, is told as one; what is taken back of a sum that finds room is the number; Cap stops at the ends.
  No condition on the arguments; the package's table of names is as the program's text lays it (the card ties that).
-/
import Derived.Test.YtnjfnmgbmkkehaaDoorPKnown
import Derived.Test.YtnjfnmgbmkkehaaDoorPLaid
import Derived.Test.YtnjfnmgbmkkehaaDoorTie
import Derived.Test.YtnjfnmgbmkkehaaDoorCards
import Derived.ShutString
import Derived.ChangeOld
import Derived.SevenTiedAt
namespace Go.Proofs.YtnjfnmgbmkkehaaDoor
namespace policyCaps
open Go.ChangeShapes Go.WideShapes Go.ChangeAt Go.RowKit
open Go.ChangeMaps (open_string shut_string)
set_option linter.unusedVariables false

theorem own : ownKnob Tryd.prog.godebug = none := by kernel_rfl

set_option maxRecDepth 100000 in
set_option maxHeartbeats 1000000 in
theorem walk0 (a b : Int) (w : World) (h : NamesAt w) (ha : in64 a) (hb : in64 b) :
    Calls Tryd.prog 6 #[.int .i64 a, .int .i64 b] w fun e w' => e = .returned (.bool true) ∧ Below w.heap.size w w' := by
  have H := Lib.hid h
  have HA := Lib.hid ha
  have HB := Lib.hid hb
  obtain ⟨ha1, ha2⟩ := ha
  obtain ⟨hb1, hb2⟩ := hb
  clear h
  by_cases hs : -9223372036854775808 ≤ a + b ∧ a + b ≤ 9223372036854775807
  · have E := Lib.hid (show addS a b = (a + b, 0) from by unfold addS; rw [if_pos hs])
    have C := Lib.hid (show capS a b = a + b from by unfold capS; rw [if_neg (by omega), if_neg (by omega)])
    obtain ⟨hs1, hs2⟩ := hs
    obtain ⟨n, hn⟩ : ∃ n, n = a + b := ⟨_, rfl⟩
    rw [← hn] at E C hs1 hs2
    have tn : (n == n) = true := by simp
    have tb : n - b = a := by omega
    have taa : (a == a) = true := by simp
    by_cases hm : a = -9223372036854775808
    · have EM := Lib.hid (show addS n (-1 - b) = (0, 9) from by unfold addS; rw [if_neg (by omega)])
      by_cases hb0 : 0 ≤ b
      · have tba : a ≤ n := by omega
        have HI := Lib.hid (show in64 n ∧ in64 (-1 - b) from ⟨⟨hs1, hs2⟩, by unfold in64; omega⟩)
        have HN := Lib.hid hn
        clear hn hm
        go_enter Tryd.func6, Tryd.ntmps6
        go_wp2_with fail
        refine (add_any a b _ HA.out HB.out).mono ?_
        rintro e w' ⟨rfl, rfl⟩
        rw [E.out]
        unfold two
        go_wp2_with fail
        refine (cap_any a b _ HA.out HB.out).mono ?_
        rintro e w' ⟨rfl, rfl⟩
        rw [C.out]
        go_wp2_with fail
        refine (add_any n (-1 - b) _ HI.out.1 HI.out.2).mono ?_
        rintro e w' ⟨rfl, rfl⟩
        rw [EM.out]
        unfold two
        go_wp2_with fail
        refine (pknown_any _ H.out).mono ?_
        rintro e W2 ⟨rfl, b2⟩
        go_wp2
        go_ret
        exact ⟨rfl, b2⟩
      · have tba : n < a := by omega
        have HI := Lib.hid (show in64 n ∧ in64 (-1 - b) from ⟨⟨hs1, hs2⟩, by unfold in64; omega⟩)
        have HN := Lib.hid hn
        clear hn hm
        go_enter Tryd.func6, Tryd.ntmps6
        go_wp2_with fail
        refine (add_any a b _ HA.out HB.out).mono ?_
        rintro e w' ⟨rfl, rfl⟩
        rw [E.out]
        unfold two
        go_wp2_with fail
        refine (cap_any a b _ HA.out HB.out).mono ?_
        rintro e w' ⟨rfl, rfl⟩
        rw [C.out]
        go_wp2_with fail
        refine (add_any n (-1 - b) _ HI.out.1 HI.out.2).mono ?_
        rintro e w' ⟨rfl, rfl⟩
        rw [EM.out]
        unfold two
        go_wp2_with fail
        refine (pknown_any _ H.out).mono ?_
        rintro e W2 ⟨rfl, b2⟩
        go_wp2
        go_ret
        exact ⟨rfl, b2⟩
    · have tm0 : -9223372036854775807 ≤ a := by omega
      have EM := Lib.hid (show addS n (-1 - b) = (a - 1, 0) from by unfold addS; rw [if_pos (by omega), show n + (-1 - b) = a - 1 from by omega])
      by_cases hb0 : 0 ≤ b
      · have tba : a ≤ n := by omega
        have HI := Lib.hid (show in64 n ∧ in64 (-1 - b) from ⟨⟨hs1, hs2⟩, by unfold in64; omega⟩)
        have HN := Lib.hid hn
        clear hn hm
        go_enter Tryd.func6, Tryd.ntmps6
        go_wp2_with fail
        refine (add_any a b _ HA.out HB.out).mono ?_
        rintro e w' ⟨rfl, rfl⟩
        rw [E.out]
        unfold two
        go_wp2_with fail
        refine (cap_any a b _ HA.out HB.out).mono ?_
        rintro e w' ⟨rfl, rfl⟩
        rw [C.out]
        go_wp2_with fail
        refine (add_any n (-1 - b) _ HI.out.1 HI.out.2).mono ?_
        rintro e w' ⟨rfl, rfl⟩
        rw [EM.out]
        unfold two
        go_wp2_with fail
        refine (pknown_any _ H.out).mono ?_
        rintro e W2 ⟨rfl, b2⟩
        go_wp2
        go_ret
        exact ⟨rfl, b2⟩
      · have tba : n < a := by omega
        have HI := Lib.hid (show in64 n ∧ in64 (-1 - b) from ⟨⟨hs1, hs2⟩, by unfold in64; omega⟩)
        have HN := Lib.hid hn
        clear hn hm
        go_enter Tryd.func6, Tryd.ntmps6
        go_wp2_with fail
        refine (add_any a b _ HA.out HB.out).mono ?_
        rintro e w' ⟨rfl, rfl⟩
        rw [E.out]
        unfold two
        go_wp2_with fail
        refine (cap_any a b _ HA.out HB.out).mono ?_
        rintro e w' ⟨rfl, rfl⟩
        rw [C.out]
        go_wp2_with fail
        refine (add_any n (-1 - b) _ HI.out.1 HI.out.2).mono ?_
        rintro e w' ⟨rfl, rfl⟩
        rw [EM.out]
        unfold two
        go_wp2_with fail
        refine (pknown_any _ H.out).mono ?_
        rintro e W2 ⟨rfl, b2⟩
        go_wp2
        go_ret
        exact ⟨rfl, b2⟩
  · have E := Lib.hid (show addS a b = (0, 9) from by unfold addS; rw [if_neg hs])
    by_cases hp : 0 < a
    · have hq : 0 < b := by omega
      have C := Lib.hid (show capS a b = 9223372036854775807 from by unfold capS; rw [if_pos (by omega)])
      clear hs
      go_enter Tryd.func6, Tryd.ntmps6
      go_wp2_with fail
      refine (add_any a b _ HA.out HB.out).mono ?_
      rintro e w' ⟨rfl, rfl⟩
      rw [E.out]
      unfold two
      go_wp2_with fail
      refine (cap_any a b _ HA.out HB.out).mono ?_
      rintro e w' ⟨rfl, rfl⟩
      rw [C.out]
      go_wp2_with fail
      refine (pknown_any _ H.out).mono ?_
      rintro e W2 ⟨rfl, b2⟩
      go_wp2
      go_ret
      exact ⟨rfl, b2⟩
    · have hq : b < 0 := by omega
      have hp' : a < 0 := by omega
      have C := Lib.hid (show capS a b = -9223372036854775808 from by unfold capS; rw [if_neg (by omega), if_pos (by omega)])
      clear hs
      go_enter Tryd.func6, Tryd.ntmps6
      go_wp2_with fail
      refine (add_any a b _ HA.out HB.out).mono ?_
      rintro e w' ⟨rfl, rfl⟩
      rw [E.out]
      unfold two
      go_wp2_with fail
      refine (cap_any a b _ HA.out HB.out).mono ?_
      rintro e w' ⟨rfl, rfl⟩
      rw [C.out]
      go_wp2_with fail
      refine (pknown_any _ H.out).mono ?_
      rintro e W2 ⟨rfl, b2⟩
      go_wp2
      go_ret
      exact ⟨rfl, b2⟩

theorem walk (a0 : Int) (a1 : Int) (w : World) (h : NamesAt w) (w0 : (Lit.int .i64 a0).wf = true) (w1 : (Lit.int .i64 a1).wf = true) :
    Calls Tryd.prog 6 #[.int .i64 a0, .int .i64 a1] w fun e w' => e = .returned (.bool true) ∧ Below w.heap.size w w' := by
  have b0 := bounds_i64 w0
  have b1 := bounds_i64 w1
  exact walk0 a0 a1 w h ⟨by omega, by omega⟩ ⟨by omega, by omega⟩

set_option maxRecDepth 100000 in
theorem lifted (os : Os) (started : os.Started) (H : Type) (enc : TypeId × Value → H) :
    ReturnsInHanded {} Tryd.checked os 6 .any (fun w args => (Rows.policyCapsSpec.pre enc Tryd.prog Tryd.f6 [] false w args ∧ laidMetH Tryd.prog laidL w) ∧ sizedMet enc Tryd.prog Tryd.f6 (OpenSpec.ofChange Rows.policyCapsSpec) false w args)
      (Rows.policyCapsSpec.post enc Tryd.prog Tryd.f6 false true false false) := by
  refine returnsInHanded_of_change_and (C := Tryd.checked) (X := fun w _ => laidMetH Tryd.prog laidL w) (fun _ _ _ hh h => h.of_heap hh) own started (by kernel_rfl) Tryd.func6
    (ChangeSpec.witness_shaped (enc := enc) (C := Tryd.checked) (os := os) (X := fun w _ => laidMetH Tryd.prog laidL w) false (World.doorLaid Tryd.prog 400 os) #[.int .i64 0, .int .i64 0] 8 rfl (World.shaped_of_RefB (by kernel_rfl) (by kernel_rfl)) (by kernel_rfl) (by kernel_rfl) (by kernel_rfl) (door_met os _)) ?_
  intro W base args ds gs before hval0 hW _ _ hL _
  have hval : ∀ (j : Nat) t v, Tryd.f6.params[j]? = some t → args[j]? = some v → Value.okWide Tryd.prog W .any base t v := hval0
  have hW' := hW
  obtain ⟨p, q, hA0, hV, rfl, hfz, hnd⟩ := hW
  have hA : DataW.TrodAll enc Tryd.prog W 0 (fun _ => true) true Tryd.f6.params.toList args.toList ds p := hA0
  rw [Tryd.params6] at hA hval
  obtain ⟨v0, vs0, d0, ds0, p0, q0, hargs, rfl, rfl, h0, r0⟩ := trodAll_cons hA
  obtain ⟨v1, vs1, d1, ds1, p1, q1, rfl, rfl, rfl, h1, r1⟩ := trodAll_cons r0
  obtain ⟨rfl, rfl, rfl⟩ := trodAll_nil r1
  obtain rfl : args = #[v0, v1] := by cases args; simp_all
  obtain ⟨rfl, rfl⟩ := trodVars_none hV
  obtain ⟨a0, rfl, rfl, rfl, w0⟩ := open_int Tryd.underlying3 (hval 0 3 v0 rfl rfl) h0
  obtain ⟨a1, rfl, rfl, rfl, w1⟩ := open_int Tryd.underlying3 (hval 1 3 v1 rfl rfl) h1
  clear hA0 hval0
  refine (walk a0 a1 W (names_of_laid hL) w0 w1).mono fun e W' ⟨he, bel⟩ => ?_
  subst he
  exact ⟨_, rfl, _, _, _, [], _, [], hW', trodAll_mk1 (shut_bool Tryd.underlying4 _), (trodAll_cons_mk (shut_int Tryd.underlying3 w0) (trodAll_cons_mk (shut_int Tryd.underlying3 w1) trodAll_mk0)), rfl, bel.frame _, fun h => by cases h⟩

theorem over : Rows.policyCapsRow.holds Tryd.pinned (OpenSpec.ofChange Rows.policyCapsSpec) :=
  OpenClaim.holds_of_wide 6 Tryd.f6 rfl rfl rfl rfl rfl rfl rfl ⟨rfl, rfl, rfl, rfl, rfl⟩ rfl rfl rfl rfl rfl (by kernel_rfl) Tryd.func6 (by kernel_rfl)
    (of_decide_eq_true (by kernel_rfl)) (by unfold Func.isWrapper; first | (rw [if_pos (by decide +kernel)]; kernel_rfl) | (rw [if_neg (by decide +kernel)]; exact ⟨rfl, rfl⟩))
    (fun os started H enc _ => lifted os started H enc)

theorem proved : Rows.PolicyCapsCardSaid :=
  Claim7.holds_tied_plain_at .later [] Rows.policyCapsCard.laidKinds true Rows.policyCapsCard.stood.harness false
    over (fun _ h => by cases h) (by kernel_rfl) (fun _ h => by cases h) policyCaps_row_tie rfl ⟨rfl, rfl⟩ (by kernel_rfl) rfl
    (fun f fn hf hfn => by
      obtain rfl : f = 6 := Option.some.inj ((show Tryd.prog.funcNamed "tachograph/tachographlaw03.PolicyCaps" = some 6 by kernel_rfl).symm.trans hf) |>.symm
      obtain rfl : fn = Tryd.f6 := (Option.some.inj (Tryd.func6.symm.trans hfn)).symm
      exact ⟨by kernel_rfl, fun j t ht => by
        rw [Tryd.params6] at ht
        have hm : t ∈ [3, 3] := by simpa using Array.mem_of_getElem? ht
        have hall : ([3, 3].all fun u => !Tryd.prog.wantsStandIn u) = true := by kernel_rfl
        exact (show Tryd.prog.wantsStandIn t = false by simpa using List.all_eq_true.1 hall t hm)⟩)
    (by kernel_rfl)
end policyCaps
theorem policyCaps_holds : Rows.PolicyCapsCardSaid := policyCaps.proved
#print axioms policyCaps_holds
end Go.Proofs.YtnjfnmgbmkkehaaDoor
