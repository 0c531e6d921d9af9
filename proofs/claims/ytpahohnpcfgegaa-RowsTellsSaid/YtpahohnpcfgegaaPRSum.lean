/-
  Contract of the document's own Add. No condition but that the numbers fit their kinds.
-/
import Derived.Test.YtpahohnpcfgegaaPSum
namespace Go.Proofs.Ytpahohnpcfgegaa
open Go.RowKit
set_option linter.unusedVariables false
set_option linter.unusedSimpArgs false

set_option maxHeartbeats 400000 in
theorem radd_any (a b : Int) (w : World) (ha : in64 a) (hb : in64 b) :
    Calls Try.prog 54 #[.int .i64 a, .int .i64 b] w fun e w' => e = .returned (two (addS a b)) ∧ w = w' := by
  obtain ⟨ha1, ha2⟩ := ha
  obtain ⟨hb1, hb2⟩ := hb
  by_cases h1 : -9223372036854775808 ≤ a + b ∧ a + b ≤ 9223372036854775807
  · have E := Lib.hid (show addS a b = (a + b, 0) from by unfold addS; rw [if_pos h1])
    obtain ⟨h11, h12⟩ := h1
    by_cases h2 : 0 < b
    · have t1 : ¬ 9223372036854775807 - b < a := by omega
      have t2 : ¬ b < 0 := by omega
      go_enter Try.func54, Try.ntmps54
      go_wp2
      go_ret2
      exact ⟨by rw [E.out]; rfl, rfl⟩
    · by_cases h3 : b < 0
      · have t1 : ¬ a < -9223372036854775808 - b := by omega
        go_enter Try.func54, Try.ntmps54
        go_wp2
        go_ret2
        exact ⟨by rw [E.out]; rfl, rfl⟩
      · go_enter Try.func54, Try.ntmps54
        go_wp2
        go_ret2
        exact ⟨by rw [E.out]; rfl, rfl⟩
  · have E := Lib.hid (show addS a b = (0, 9) from by unfold addS; rw [if_neg h1])
    by_cases h2 : 0 < b
    · have t1 : 9223372036854775807 - b < a := by omega
      clear h1
      go_enter Try.func54, Try.ntmps54
      go_wp2
      go_ret2
      exact ⟨by rw [E.out]; rfl, rfl⟩
    · have h3 : b < 0 := by omega
      have t1 : a < -9223372036854775808 - b := by omega
      clear h1
      go_enter Try.func54, Try.ntmps54
      go_wp2
      go_ret2
      exact ⟨by rw [E.out]; rfl, rfl⟩

end Go.Proofs.Ytpahohnpcfgegaa
