/-
  Contract of policy.Add. No condition but that the numbers fit their kinds.
-/
import Derived.Test.YtojnalpmibpchaaDoorBase
namespace Go.Proofs.YtojnalpmibpchaaDoor
open Go.RowKit
set_option linter.unusedVariables false
set_option linter.unusedSimpArgs false

/-- A sum and OK, or ErrOver. -/
def addS (a b : Int) : Int × Int := if -9223372036854775808 ≤ a + b ∧ a + b ≤ 9223372036854775807 then (a + b, 0) else (0, 9)
def two (x : Int × Int) : Value := .tuple #[.int .i64 x.1, .int .i64 x.2]
theorem addS_in (a b : Int) : in64 (addS a b).1 := by unfold addS in64; split <;> simp <;> omega
set_option maxHeartbeats 400000 in
theorem add_any (a b : Int) (w : World) (ha : in64 a) (hb : in64 b) :
    Calls Tryd.prog 45 #[.int .i64 a, .int .i64 b] w fun e w' => e = .returned (two (addS a b)) ∧ w = w' := by
  obtain ⟨ha1, ha2⟩ := ha
  obtain ⟨hb1, hb2⟩ := hb
  by_cases h1 : a + b < -9223372036854775808
  · have E := Lib.hid (show addS a b = (0, 9) from by unfold addS; rw [if_neg (by omega)])
    have t1 : decide (wrap64 (a + b) < a) = false := by simp only [decide_eq_false_iff_not]; unfold wrap64; omega
    have t2 : decide (b < 0) = true := by simp only [decide_eq_true_eq]; omega
    go_enter Tryd.func45, Tryd.ntmps45
    go_wp2
    go_ret2
    exact ⟨by rw [E.out]; rfl, rfl⟩
  · by_cases h2 : 9223372036854775807 < a + b
    · have E := Lib.hid (show addS a b = (0, 9) from by unfold addS; rw [if_neg (by omega)])
      have t1 : decide (wrap64 (a + b) < a) = true := by simp only [decide_eq_true_eq]; unfold wrap64; omega
      have t2 : decide (b < 0) = false := by simp only [decide_eq_false_iff_not]; omega
      go_enter Tryd.func45, Tryd.ntmps45
      go_wp2
      go_ret2
      exact ⟨by rw [E.out]; rfl, rfl⟩
    · have E := Lib.hid (show addS a b = (a + b, 0) from by unfold addS; rw [if_pos (by omega)])
      have t1 : decide (a + b < a) = decide (b < 0) := by rw [decide_eq_decide]; omega
      by_cases h3 : b < 0
      · have t2 : decide (b < 0) = true := by simp only [decide_eq_true_eq]; omega
        rw [t2] at t1
        go_enter Tryd.func45, Tryd.ntmps45
        go_wp2
        go_ret2
        exact ⟨by rw [E.out]; rfl, rfl⟩
      · have t2 : decide (b < 0) = false := by simp only [decide_eq_false_iff_not]; omega
        rw [t2] at t1
        go_enter Tryd.func45, Tryd.ntmps45
        go_wp2
        go_ret2
        exact ⟨by rw [E.out]; rfl, rfl⟩

end Go.Proofs.YtojnalpmibpchaaDoor
