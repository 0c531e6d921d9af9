/-
  Contracts of the document's own Add and Merge. No condition but that the numbers fit their kinds.
-/
import Derived.Test.YtjhnajenkoepdaaPMerge
namespace Go.Proofs.Ytjhnajenkoepdaa
open Go.RowKit
set_option linter.unusedVariables false
set_option linter.unusedSimpArgs false

set_option maxHeartbeats 400000 in
theorem radd_any (a b : Int) (w : World) (ha : in64 a) (hb : in64 b) :
    Calls Try.prog 62 #[.int .i64 a, .int .i64 b] w fun e w' => e = .returned (two (addS a b)) ∧ w = w' := by
  obtain ⟨ha1, ha2⟩ := ha
  obtain ⟨hb1, hb2⟩ := hb
  by_cases h1 : -9223372036854775808 ≤ a + b ∧ a + b ≤ 9223372036854775807
  · have E := Lib.hid (show addS a b = (a + b, 0) from by unfold addS; rw [if_pos h1])
    obtain ⟨h11, h12⟩ := h1
    by_cases h2 : 0 < b
    · have t1 : ¬ 9223372036854775807 - b < a := by omega
      have t2 : ¬ b < 0 := by omega
      go_enter Try.func62, Try.ntmps62
      go_wp2
      go_ret2
      exact ⟨by rw [E.out]; rfl, rfl⟩
    · by_cases h3 : b < 0
      · have t1 : ¬ a < -9223372036854775808 - b := by omega
        go_enter Try.func62, Try.ntmps62
        go_wp2
        go_ret2
        exact ⟨by rw [E.out]; rfl, rfl⟩
      · go_enter Try.func62, Try.ntmps62
        go_wp2
        go_ret2
        exact ⟨by rw [E.out]; rfl, rfl⟩
  · have E := Lib.hid (show addS a b = (0, 9) from by unfold addS; rw [if_neg h1])
    by_cases h2 : 0 < b
    · have t1 : 9223372036854775807 - b < a := by omega
      clear h1
      go_enter Try.func62, Try.ntmps62
      go_wp2
      go_ret2
      exact ⟨by rw [E.out]; rfl, rfl⟩
    · have h3 : b < 0 := by omega
      have t1 : a < -9223372036854775808 - b := by omega
      clear h1
      go_enter Try.func62, Try.ntmps62
      go_wp2
      go_ret2
      exact ⟨by rw [E.out]; rfl, rfl⟩

set_option maxHeartbeats 1000000 in
theorem rmerge_any (p a b : Int) (w : World) (ha : in64 a) (hb : in64 b) :
    Calls Try.prog 57 #[.int .i64 p, .int .i64 a, .int .i64 b] w fun e w' => e = .returned (two (mergeS p a b)) ∧ w = w' := by
  have HA := Lib.hid ha
  have HB := Lib.hid hb
  clear ha hb
  rcases six p with rfl | rfl | rfl | rfl | rfl | rfl | ⟨h1, h2, h3, h4, h5, h6⟩
  · go_enter Try.func57, Try.ntmps57
    go_wp2
    go_ret2
    exact ⟨rfl, rfl⟩
  · go_enter Try.func57, Try.ntmps57
    go_wp2
    go_ret2
    exact ⟨rfl, rfl⟩
  · go_enter Try.func57, Try.ntmps57
    go_wp2
    go_ret2
    exact ⟨rfl, rfl⟩
  · by_cases h : a ≤ b
    · have E := Lib.hid (show mergeS 4 a b = (a, 0) from by show (min a b, (0 : Int)) = _; rw [Int.min_eq_left h])
      go_enter Try.func57, Try.ntmps57
      go_wp2
      go_ret2
      exact ⟨by rw [E.out]; rfl, rfl⟩
    · have E := Lib.hid (show mergeS 4 a b = (b, 0) from by show (min a b, (0 : Int)) = _; rw [Int.min_eq_right (by omega)])
      go_enter Try.func57, Try.ntmps57
      go_wp2
      go_ret2
      exact ⟨by rw [E.out]; rfl, rfl⟩
  · by_cases h : b ≤ a
    · have E := Lib.hid (show mergeS 5 a b = (a, 0) from by show (max a b, (0 : Int)) = _; rw [Int.max_eq_left h])
      go_enter Try.func57, Try.ntmps57
      go_wp2
      go_ret2
      exact ⟨by rw [E.out]; rfl, rfl⟩
    · have E := Lib.hid (show mergeS 5 a b = (b, 0) from by show (max a b, (0 : Int)) = _; rw [Int.max_eq_right (by omega)])
      go_enter Try.func57, Try.ntmps57
      go_wp2
      go_ret2
      exact ⟨by rw [E.out]; rfl, rfl⟩
  · have E := Lib.hid (show mergeS 6 a b = addS a b from rfl)
    go_enter Try.func57, Try.ntmps57
    go_wp2_with fail
    refine (radd_any a b w HA.out HB.out).mono ?_
    rintro e w' ⟨rfl, rfl⟩
    generalize addS a b = x at *
    obtain ⟨x1, x2⟩ := x
    unfold two
    go_wp2
    go_ret2
    exact ⟨by rw [E.out]; rfl, rfl⟩
  · have E := Lib.hid (show mergeS p a b = (0, 1) from by unfold mergeS; rw [if_neg h1, if_neg h2, if_neg h3, if_neg h4, if_neg h5, if_neg h6])
    have t1 : (p == 1) = false := by simpa using h1
    have t2 : (p == 2) = false := by simpa using h2
    have t3 : (p == 3) = false := by simpa using h3
    have t4 : (p == 4) = false := by simpa using h4
    have t5 : (p == 5) = false := by simpa using h5
    have t6 : (p == 6) = false := by simpa using h6
    clear h1 h2 h3 h4 h5 h6
    go_enter Try.func57, Try.ntmps57
    go_wp2
    go_ret2
    exact ⟨by rw [E.out]; rfl, rfl⟩

end Go.Proofs.Ytjhnajenkoepdaa
