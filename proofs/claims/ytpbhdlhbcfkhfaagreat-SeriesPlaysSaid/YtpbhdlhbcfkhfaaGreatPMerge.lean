/-
  Contracts of policy.Add and policy.Merge. No condition but that the numbers fit their kinds.
-/
import Derived.Test.YtpbhdlhbcfkhfaaGreatBase
namespace Go.Proofs.YtpbhdlhbcfkhfaaGreat
open Go.RowKit
set_option linter.unusedVariables false
set_option linter.unusedSimpArgs false

/-- A sum and OK, or ErrOver. -/
def addS (a b : Int) : Int × Int := if -9223372036854775808 ≤ a + b ∧ a + b ≤ 9223372036854775807 then (a + b, 0) else (0, 9)
/-- What two samples become by a policy. -/
def mergeS (p a b : Int) : Int × Int :=
  if p = 1 then (0, 8) else if p = 2 then (a, 0) else if p = 3 then (b, 0) else if p = 4 then (min a b, 0) else if p = 5 then (max a b, 0) else if p = 6 then addS a b else (0, 1)
def two (x : Int × Int) : Value := .tuple #[.int .i64 x.1, .int .i64 x.2]
theorem addS_in (a b : Int) : in64 (addS a b).1 := by unfold addS in64; split <;> simp <;> omega
theorem mergeS_in (p a b : Int) (ha : in64 a) (hb : in64 b) : in64 (mergeS p a b).1 := by
  have := addS_in a b
  unfold in64 at ha hb this ⊢; unfold mergeS
  (repeat' split) <;> first | omega | (simp only []; omega)

set_option maxHeartbeats 400000 in
theorem add_any (a b : Int) (w : World) (ha : in64 a) (hb : in64 b) :
    Calls Tryz.prog 96 #[.int .i64 a, .int .i64 b] w fun e w' => e = .returned (two (addS a b)) ∧ w = w' := by
  obtain ⟨ha1, ha2⟩ := ha
  obtain ⟨hb1, hb2⟩ := hb
  by_cases h1 : a + b < -9223372036854775808
  · have E := Lib.hid (show addS a b = (0, 9) from by unfold addS; rw [if_neg (by omega)])
    have t1 : decide (wrap64 (a + b) < a) = false := by simp only [decide_eq_false_iff_not]; unfold wrap64; omega
    have t2 : decide (b < 0) = true := by simp only [decide_eq_true_eq]; omega
    go_enter Tryz.func96, Tryz.ntmps96
    go_wp2
    go_ret2
    exact ⟨by rw [E.out]; rfl, rfl⟩
  · by_cases h2 : 9223372036854775807 < a + b
    · have E := Lib.hid (show addS a b = (0, 9) from by unfold addS; rw [if_neg (by omega)])
      have t1 : decide (wrap64 (a + b) < a) = true := by simp only [decide_eq_true_eq]; unfold wrap64; omega
      have t2 : decide (b < 0) = false := by simp only [decide_eq_false_iff_not]; omega
      go_enter Tryz.func96, Tryz.ntmps96
      go_wp2
      go_ret2
      exact ⟨by rw [E.out]; rfl, rfl⟩
    · have E := Lib.hid (show addS a b = (a + b, 0) from by unfold addS; rw [if_pos (by omega)])
      have t1 : decide (a + b < a) = decide (b < 0) := by rw [decide_eq_decide]; omega
      by_cases h3 : b < 0
      · have t2 : decide (b < 0) = true := by simp only [decide_eq_true_eq]; omega
        rw [t2] at t1
        go_enter Tryz.func96, Tryz.ntmps96
        go_wp2
        go_ret2
        exact ⟨by rw [E.out]; rfl, rfl⟩
      · have t2 : decide (b < 0) = false := by simp only [decide_eq_false_iff_not]; omega
        rw [t2] at t1
        go_enter Tryz.func96, Tryz.ntmps96
        go_wp2
        go_ret2
        exact ⟨by rw [E.out]; rfl, rfl⟩

/-- What a policy is. -/
theorem six (p : Int) : p = 1 ∨ p = 2 ∨ p = 3 ∨ p = 4 ∨ p = 5 ∨ p = 6 ∨ (p ≠ 1 ∧ p ≠ 2 ∧ p ≠ 3 ∧ p ≠ 4 ∧ p ≠ 5 ∧ p ≠ 6) := by omega

set_option maxHeartbeats 1000000 in
theorem merge_any (p a b : Int) (w : World) (ha : in64 a) (hb : in64 b) :
    Calls Tryz.prog 86 #[.int .i64 p, .int .i64 a, .int .i64 b] w fun e w' => e = .returned (two (mergeS p a b)) ∧ w = w' := by
  have HA := Lib.hid ha
  have HB := Lib.hid hb
  clear ha hb
  rcases six p with rfl | rfl | rfl | rfl | rfl | rfl | ⟨h1, h2, h3, h4, h5, h6⟩
  · go_enter Tryz.func86, Tryz.ntmps86
    go_wp2
    go_ret2
    exact ⟨rfl, rfl⟩
  · go_enter Tryz.func86, Tryz.ntmps86
    go_wp2
    go_ret2
    exact ⟨rfl, rfl⟩
  · go_enter Tryz.func86, Tryz.ntmps86
    go_wp2
    go_ret2
    exact ⟨rfl, rfl⟩
  · by_cases h : a ≤ b
    · have E := Lib.hid (show mergeS 4 a b = (a, 0) from by show (min a b, (0 : Int)) = _; rw [Int.min_eq_left h])
      go_enter Tryz.func86, Tryz.ntmps86
      go_wp2
      go_ret2
      exact ⟨by rw [E.out]; rfl, rfl⟩
    · have E := Lib.hid (show mergeS 4 a b = (b, 0) from by show (min a b, (0 : Int)) = _; rw [Int.min_eq_right (by omega)])
      go_enter Tryz.func86, Tryz.ntmps86
      go_wp2
      go_ret2
      exact ⟨by rw [E.out]; rfl, rfl⟩
  · by_cases h : b ≤ a
    · have E := Lib.hid (show mergeS 5 a b = (a, 0) from by show (max a b, (0 : Int)) = _; rw [Int.max_eq_left h])
      go_enter Tryz.func86, Tryz.ntmps86
      go_wp2
      go_ret2
      exact ⟨by rw [E.out]; rfl, rfl⟩
    · have E := Lib.hid (show mergeS 5 a b = (b, 0) from by show (max a b, (0 : Int)) = _; rw [Int.max_eq_right (by omega)])
      go_enter Tryz.func86, Tryz.ntmps86
      go_wp2
      go_ret2
      exact ⟨by rw [E.out]; rfl, rfl⟩
  · have E := Lib.hid (show mergeS 6 a b = addS a b from rfl)
    go_enter Tryz.func86, Tryz.ntmps86
    go_wp2_with fail
    refine (add_any a b w HA.out HB.out).mono ?_
    rintro e w' ⟨rfl, rfl⟩
    generalize addS a b = x at *
    obtain ⟨x1, x2⟩ := x
    unfold two
    go_wp2
    go_ret2
    exact ⟨by rw [E.out]; rfl, rfl⟩
  · have E := Lib.hid (show mergeS p a b = (0, 1) from by unfold mergeS; rw [if_neg h1, if_neg h2, if_neg h3, if_neg h4, if_neg h5, if_neg h6])
    have t1 : (p == 1) = false := by simpa using h1
    have t2 : (p == 2) = false := by simpa using h2
    have t3 : (p == 3) = false := by simpa using h3
    have t4 : (p == 4) = false := by simpa using h4
    have t5 : (p == 5) = false := by simpa using h5
    have t6 : (p == 6) = false := by simpa using h6
    clear h1 h2 h3 h4 h5 h6
    go_enter Tryz.func86, Tryz.ntmps86
    go_wp2
    go_ret2
    exact ⟨by rw [E.out]; rfl, rfl⟩

end Go.Proofs.YtpbhdlhbcfkhfaaGreat
