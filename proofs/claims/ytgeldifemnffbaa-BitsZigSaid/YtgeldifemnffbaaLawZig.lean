/-
  The statement 'BitsZig' of layer 1: for every two numbers and every unsigned one, a number's Zig is its own and tells it, and of two numbers of the same sign the one nearer to 0 has the lesser one.
  No condition.
-/
import Derived.Test.YtgeldifemnffbaaKnown
import Derived.ProofKit
import Derived.OpenShut
import Derived.ShutString
import Derived.ChangeOld
namespace Go.Proofs.Ytgeldifemnffbaa
namespace bitsZig
open Go.ChangeShapes Go.WideShapes Go.ChangeAt Go.RowKit
open Go.ChangeMaps (open_string shut_string)
set_option linter.unusedVariables false

theorem own : ownKnob Try.prog.godebug = none := by kernel_rfl

theorem zag_zig (n : Int) : zag (zig n) = n := by unfold zag zig; split <;> split <;> omega
theorem zig_zag (u : Int) (h : 0 ≤ u) : zig (zag u) = u := by unfold zag zig; split <;> split <;> omega
theorem zig_range (n : Int) (h1 : -9223372036854775808 ≤ n) (h2 : n ≤ 9223372036854775807) : 0 ≤ zig n ∧ zig n ≤ 18446744073709551615 := by unfold zig; split <;> omega
theorem zag_range (u : Int) (h1 : 0 ≤ u) (h2 : u ≤ 18446744073709551615) : -9223372036854775808 ≤ zag u ∧ zag u ≤ 9223372036854775807 := by unfold zag; split <;> omega
theorem zig_up (m n : Int) (h : 0 ≤ m) (h' : m < n) : zig m < zig n := by unfold zig; split <;> split <;> omega
theorem zig_down (m n : Int) (h : m < 0) (h' : n < m) : zig m < zig n := by unfold zig; split <;> split <;> omega
theorem zig_inj (m n : Int) (h : zig m = zig n) : m = n := by rw [← zag_zig m, h, zag_zig]
theorem zig_odd (m : Int) : zig m % 2 = 1 ↔ m < 0 := by unfold zig; split <;> omega

set_option maxRecDepth 100000 in
set_option maxHeartbeats 1000000 in
theorem walk0 (m n u : Int) (w : World) (hm1 : -9223372036854775808 ≤ m) (hm2 : m ≤ 9223372036854775807) (hn1 : -9223372036854775808 ≤ n) (hn2 : n ≤ 9223372036854775807) (hu0 : 0 ≤ u) (hu1 : u ≤ 18446744073709551615) :
    Calls Try.prog 6 #[.int .i64 m, .int .i64 n, .int .u64 u] w fun e w' => e = .returned (.bool true) ∧ Below w.heap.size w w' := by
  obtain ⟨hza1, hza2⟩ := zig_range m hm1 hm2
  obtain ⟨hzb1, hzb2⟩ := zig_range n hn1 hn2
  obtain ⟨hg1, hg2⟩ := zag_range u hu0 hu1
  have HA := Lib.hid (zag_zig m)
  have HB := Lib.hid (zag_zig n)
  have HU := Lib.hid (zig_zag u hu0)
  have HI : Hid (zig m = zig n → m = n) := Lib.hid (zig_inj m n)
  have hup : 0 ≤ m → m < n → zig m < zig n := zig_up m n
  have hdn : m < 0 → n < m → zig m < zig n := zig_down m n
  have hod := zig_odd m
  have HM := Lib.hid (rfl : zig m = zig m)
  obtain ⟨a, ha⟩ : ∃ a, a = zig m := ⟨_, rfl⟩
  obtain ⟨b, hb⟩ : ∃ b, b = zig n := ⟨_, rfl⟩
  obtain ⟨c, hc⟩ : ∃ c, c = zag u := ⟨_, rfl⟩
  rw [← ha] at hza1 hza2 hup hdn hod HA HI
  rw [← hb] at hzb1 hzb2 hup hdn HB HI
  rw [← hc] at hg1 hg2 HU
  have HEA := Lib.hid ha
  have HEB := Lib.hid hb
  have HEC := Lib.hid hc
  clear ha hb hc HM
  have t1 : (a % 2 == 1) = decide (m < 0) := by
    by_cases h : m < 0
    · simp [h, hod.2 h]
    · have : ¬ a % 2 = 1 := fun e => h (hod.1 e)
      simp [h, this]
  have hmn : (a == b) = (m == n) := by
    by_cases h : m = n
    · have h2 : a = b := by rw [HEA.out, HEB.out, h]
      rw [beq_iff_eq.2 h, beq_iff_eq.2 h2]
    · have h2 : ¬ a = b := fun e => h (HI.out e)
      rw [beq_eq_false_iff_ne.2 h, beq_eq_false_iff_ne.2 h2]
  clear hod HI
  by_cases hm : 0 ≤ m
  · have k1 : decide (m < 0) = false := by simp; omega
    rw [k1] at t1
    by_cases hn : m < n
    · have hl := hup hm hn
      have k2 : (m == n) = false := by simp; omega
      rw [k2] at hmn
      clear hup hdn
      go_enter Try.func6, Try.ntmps6
      go_wp2_with fail
      refine (zig_any _ _ hm1 hm2).mono ?_
      rintro e w' ⟨rfl, rfl⟩
      rw [← HEA.out]
      go_wp2_with fail
      refine (zig_any _ _ hn1 hn2).mono ?_
      rintro e w' ⟨rfl, rfl⟩
      rw [← HEB.out]
      go_wp2_with fail
      refine (zag_any _ _ hza1 hza2).mono ?_
      rintro e w' ⟨rfl, rfl⟩
      rw [HA.out]
      go_wp2_with fail
      refine (zag_any _ _ hzb1 hzb2).mono ?_
      rintro e w' ⟨rfl, rfl⟩
      rw [HB.out]
      go_wp2_with fail
      refine (zag_any _ _ hu0 hu1).mono ?_
      rintro e w' ⟨rfl, rfl⟩
      rw [← HEC.out]
      go_wp2_with fail
      refine (zig_any _ _ hg1 hg2).mono ?_
      rintro e w' ⟨rfl, rfl⟩
      rw [HU.out]
      go_wp2_with fail
      refine (rzig_any _ _ hm1 hm2).mono ?_
      rintro e w' ⟨rfl, rfl⟩
      rw [← HEA.out]
      go_wp2_with fail
      refine (known_any _).mono ?_
      rintro e W2 ⟨rfl, b2⟩
      go_wp2
      go_ret
      exact ⟨rfl, b2⟩
    · by_cases he : m = n
      · subst he
        have k2 : (m == m) = true := by simp
        rw [k2] at hmn
        clear hup hdn
        go_enter Try.func6, Try.ntmps6
        go_wp2_with fail
        refine (zig_any _ _ hm1 hm2).mono ?_
        rintro e w' ⟨rfl, rfl⟩
        rw [← HEA.out]
        go_wp2_with fail
        refine (zig_any _ _ hn1 hn2).mono ?_
        rintro e w' ⟨rfl, rfl⟩
        rw [← HEB.out]
        go_wp2_with fail
        refine (zag_any _ _ hza1 hza2).mono ?_
        rintro e w' ⟨rfl, rfl⟩
        rw [HA.out]
        go_wp2_with fail
        refine (zag_any _ _ hzb1 hzb2).mono ?_
        rintro e w' ⟨rfl, rfl⟩
        rw [HB.out]
        go_wp2_with fail
        refine (zag_any _ _ hu0 hu1).mono ?_
        rintro e w' ⟨rfl, rfl⟩
        rw [← HEC.out]
        go_wp2_with fail
        refine (zig_any _ _ hg1 hg2).mono ?_
        rintro e w' ⟨rfl, rfl⟩
        rw [HU.out]
        go_wp2_with fail
        refine (rzig_any _ _ hm1 hm2).mono ?_
        rintro e w' ⟨rfl, rfl⟩
        rw [← HEA.out]
        go_wp2_with fail
        refine (known_any _).mono ?_
        rintro e W2 ⟨rfl, b2⟩
        go_wp2
        go_ret
        exact ⟨rfl, b2⟩
      · have k2 : (m == n) = false := by simp; omega
        have k3 : n < m := by omega
        rw [k2] at hmn
        clear hup hdn he
        go_enter Try.func6, Try.ntmps6
        go_wp2_with fail
        refine (zig_any _ _ hm1 hm2).mono ?_
        rintro e w' ⟨rfl, rfl⟩
        rw [← HEA.out]
        go_wp2_with fail
        refine (zig_any _ _ hn1 hn2).mono ?_
        rintro e w' ⟨rfl, rfl⟩
        rw [← HEB.out]
        go_wp2_with fail
        refine (zag_any _ _ hza1 hza2).mono ?_
        rintro e w' ⟨rfl, rfl⟩
        rw [HA.out]
        go_wp2_with fail
        refine (zag_any _ _ hzb1 hzb2).mono ?_
        rintro e w' ⟨rfl, rfl⟩
        rw [HB.out]
        go_wp2_with fail
        refine (zag_any _ _ hu0 hu1).mono ?_
        rintro e w' ⟨rfl, rfl⟩
        rw [← HEC.out]
        go_wp2_with fail
        refine (zig_any _ _ hg1 hg2).mono ?_
        rintro e w' ⟨rfl, rfl⟩
        rw [HU.out]
        go_wp2_with fail
        refine (rzig_any _ _ hm1 hm2).mono ?_
        rintro e w' ⟨rfl, rfl⟩
        rw [← HEA.out]
        go_wp2_with fail
        refine (known_any _).mono ?_
        rintro e W2 ⟨rfl, b2⟩
        go_wp2
        go_ret
        exact ⟨rfl, b2⟩
  · have k1 : decide (m < 0) = true := by simp; omega
    rw [k1] at t1
    have hm' : m < 0 := by omega
    by_cases hn : n < m
    · have hl := hdn hm' hn
      have k2 : (m == n) = false := by simp; omega
      rw [k2] at hmn
      clear hup hdn
      go_enter Try.func6, Try.ntmps6
      go_wp2_with fail
      refine (zig_any _ _ hm1 hm2).mono ?_
      rintro e w' ⟨rfl, rfl⟩
      rw [← HEA.out]
      go_wp2_with fail
      refine (zig_any _ _ hn1 hn2).mono ?_
      rintro e w' ⟨rfl, rfl⟩
      rw [← HEB.out]
      go_wp2_with fail
      refine (zag_any _ _ hza1 hza2).mono ?_
      rintro e w' ⟨rfl, rfl⟩
      rw [HA.out]
      go_wp2_with fail
      refine (zag_any _ _ hzb1 hzb2).mono ?_
      rintro e w' ⟨rfl, rfl⟩
      rw [HB.out]
      go_wp2_with fail
      refine (zag_any _ _ hu0 hu1).mono ?_
      rintro e w' ⟨rfl, rfl⟩
      rw [← HEC.out]
      go_wp2_with fail
      refine (zig_any _ _ hg1 hg2).mono ?_
      rintro e w' ⟨rfl, rfl⟩
      rw [HU.out]
      go_wp2_with fail
      refine (rzig_any _ _ hm1 hm2).mono ?_
      rintro e w' ⟨rfl, rfl⟩
      rw [← HEA.out]
      go_wp2_with fail
      refine (known_any _).mono ?_
      rintro e W2 ⟨rfl, b2⟩
      go_wp2
      go_ret
      exact ⟨rfl, b2⟩
    · by_cases he : m = n
      · subst he
        have k2 : (m == m) = true := by simp
        rw [k2] at hmn
        clear hup hdn
        go_enter Try.func6, Try.ntmps6
        go_wp2_with fail
        refine (zig_any _ _ hm1 hm2).mono ?_
        rintro e w' ⟨rfl, rfl⟩
        rw [← HEA.out]
        go_wp2_with fail
        refine (zig_any _ _ hn1 hn2).mono ?_
        rintro e w' ⟨rfl, rfl⟩
        rw [← HEB.out]
        go_wp2_with fail
        refine (zag_any _ _ hza1 hza2).mono ?_
        rintro e w' ⟨rfl, rfl⟩
        rw [HA.out]
        go_wp2_with fail
        refine (zag_any _ _ hzb1 hzb2).mono ?_
        rintro e w' ⟨rfl, rfl⟩
        rw [HB.out]
        go_wp2_with fail
        refine (zag_any _ _ hu0 hu1).mono ?_
        rintro e w' ⟨rfl, rfl⟩
        rw [← HEC.out]
        go_wp2_with fail
        refine (zig_any _ _ hg1 hg2).mono ?_
        rintro e w' ⟨rfl, rfl⟩
        rw [HU.out]
        go_wp2_with fail
        refine (rzig_any _ _ hm1 hm2).mono ?_
        rintro e w' ⟨rfl, rfl⟩
        rw [← HEA.out]
        go_wp2_with fail
        refine (known_any _).mono ?_
        rintro e W2 ⟨rfl, b2⟩
        go_wp2
        go_ret
        exact ⟨rfl, b2⟩
      · have k2 : (m == n) = false := by simp; omega
        have k3 : m < n := by omega
        rw [k2] at hmn
        clear hup hdn he
        go_enter Try.func6, Try.ntmps6
        go_wp2_with fail
        refine (zig_any _ _ hm1 hm2).mono ?_
        rintro e w' ⟨rfl, rfl⟩
        rw [← HEA.out]
        go_wp2_with fail
        refine (zig_any _ _ hn1 hn2).mono ?_
        rintro e w' ⟨rfl, rfl⟩
        rw [← HEB.out]
        go_wp2_with fail
        refine (zag_any _ _ hza1 hza2).mono ?_
        rintro e w' ⟨rfl, rfl⟩
        rw [HA.out]
        go_wp2_with fail
        refine (zag_any _ _ hzb1 hzb2).mono ?_
        rintro e w' ⟨rfl, rfl⟩
        rw [HB.out]
        go_wp2_with fail
        refine (zag_any _ _ hu0 hu1).mono ?_
        rintro e w' ⟨rfl, rfl⟩
        rw [← HEC.out]
        go_wp2_with fail
        refine (zig_any _ _ hg1 hg2).mono ?_
        rintro e w' ⟨rfl, rfl⟩
        rw [HU.out]
        go_wp2_with fail
        refine (rzig_any _ _ hm1 hm2).mono ?_
        rintro e w' ⟨rfl, rfl⟩
        rw [← HEA.out]
        go_wp2_with fail
        refine (known_any _).mono ?_
        rintro e W2 ⟨rfl, b2⟩
        go_wp2
        go_ret
        exact ⟨rfl, b2⟩

theorem walk (a0 a1 a2 : Int) (w : World) (w0 : (Lit.int .i64 a0).wf = true) (w1 : (Lit.int .i64 a1).wf = true) (w2 : (Lit.int .u64 a2).wf = true) :
    Calls Try.prog 6 #[.int .i64 a0, .int .i64 a1, .int .u64 a2] w fun e w' => e = .returned (.bool true) ∧ Below w.heap.size w w' := by
  have b0 := bounds_i64 w0
  have b1 := bounds_i64 w1
  have b2 := bounds_u64 w2
  exact walk0 a0 a1 a2 w (by omega) (by omega) (by omega) (by omega) (by omega) (by omega)

set_option maxRecDepth 100000 in
theorem lifted (os : Os) (started : os.Started) (H : Type) (enc : TypeId × Value → H) :
    ReturnsInHanded {} Try.checked os 6 .any (Rows.bitsZigSpec.pre6 enc Try.prog Try.f6 Rows.bitsZigRow.domain false) (Rows.bitsZigSpec.post enc Try.prog Try.f6 false true false false) := by
  refine returnsInHanded_of_change (C := Try.checked) own started (by kernel_rfl) Try.func6
    (ChangeSpec.witness6 (enc := enc) (C := Try.checked) false ⟨#[], #[.int .i64 0, .int .i64 0, .int .u64 0], []⟩ 8 (by kernel_rfl) (by kernel_rfl) (by kernel_rfl) (by kernel_rfl)) ?_
  intro W base args ds gs before hval0 hW hcnd _
  have hval : ∀ (j : Nat) t v, Try.f6.params[j]? = some t → args[j]? = some v → Value.okWide Try.prog W .any base t v := hval0
  have hW' := hW
  obtain ⟨p, q, hA0, hV, rfl, hfz, hnd⟩ := hW
  have hA : DataW.TrodAll enc Try.prog W 0 (fun _ => true) true Try.f6.params.toList args.toList ds p := hA0
  rw [Try.params6] at hA hval
  obtain ⟨v0, vs0, d0, ds0, p0, q0, hargs, rfl, rfl, h0, r0⟩ := trodAll_cons hA
  obtain ⟨v1, vs1, d1, ds1, p1, q1, rfl, rfl, rfl, h1, r1⟩ := trodAll_cons r0
  obtain ⟨v2, vs2, d2, ds2, p2, q2, rfl, rfl, rfl, h2, r2⟩ := trodAll_cons r1
  obtain ⟨rfl, rfl, rfl⟩ := trodAll_nil r2
  obtain rfl : args = #[v0, v1, v2] := by cases args; simp_all
  obtain ⟨rfl, rfl⟩ := trodVars_none hV
  obtain ⟨a0, rfl, rfl, rfl, w0⟩ := open_int Try.underlying3 (hval 0 3 v0 rfl rfl) h0
  obtain ⟨a1, rfl, rfl, rfl, w1⟩ := open_int Try.underlying3 (hval 1 3 v1 rfl rfl) h1
  obtain ⟨a2, rfl, rfl, rfl, w2⟩ := open_int Try.underlying25 (hval 2 25 v2 rfl rfl) h2
  clear hA0 hval0
  refine (walk a0 a1 a2 W w0 w1 w2).mono fun e W' ⟨he, bel⟩ => ?_
  subst he
  exact ⟨_, rfl, _, _, _, [], _, [], hW', trodAll_mk1 (shut_bool Try.underlying4 _), (trodAll_cons_mk (shut_int Try.underlying3 w0) (trodAll_cons_mk (shut_int Try.underlying3 w1) (trodAll_cons_mk (shut_int Try.underlying25 w2) trodAll_mk0))), rfl, bel.frame _, fun h => by cases h⟩

theorem over : Rows.bitsZigRow.holds Try.pinned (OpenSpec.ofChange Rows.bitsZigSpec) :=
  OpenClaim.holds_of_wide 6 Try.f6 rfl rfl rfl rfl rfl rfl rfl ⟨rfl, rfl, rfl, rfl, rfl⟩ rfl rfl rfl rfl rfl (by kernel_rfl) Try.func6 (by kernel_rfl)
    (of_decide_eq_true (by kernel_rfl)) (by unfold Func.isWrapper; first | (rw [if_pos (by decide +kernel)]; kernel_rfl) | (rw [if_neg (by decide +kernel)]; exact ⟨rfl, rfl⟩))
    (fun os started H enc _ => lifted os started H enc)

theorem proved : Rows.BitsZigSaid := over
end bitsZig
theorem bitsZig_holds : Rows.BitsZigSaid := bitsZig.proved
#print axioms bitsZig_holds
end Go.Proofs.Ytgeldifemnffbaa
