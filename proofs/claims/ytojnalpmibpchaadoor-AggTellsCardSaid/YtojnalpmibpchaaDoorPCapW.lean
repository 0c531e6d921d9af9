/-
  Contract of policy.Cap. No condition but that the numbers fit their kinds.
-/
import Derived.Test.YtojnalpmibpchaaDoorPCap
namespace Go.Proofs.YtojnalpmibpchaaDoor
open Go.RowKit
set_option linter.unusedVariables false
set_option linter.unusedSimpArgs false

set_option maxHeartbeats 400000 in
theorem cap_any (a b : Int) (w : World) (ha : in64 a) (hb : in64 b) :
    Calls Tryd.prog 33 #[.int .i64 a, .int .i64 b] w fun e w' => e = .returned (.int .i64 (capS a b)) ∧ w = w' := by
  have HA := Lib.hid ha
  have HB := Lib.hid hb
  by_cases h1 : -9223372036854775808 ≤ a + b ∧ a + b ≤ 9223372036854775807
  · have E := Lib.hid (show addS a b = (a + b, 0) from by unfold addS; rw [if_pos h1])
    have C := Lib.hid (show capS a b = a + b from by unfold capS; rw [if_neg (by omega), if_neg (by omega)])
    clear ha hb
    go_enter Tryd.func33, Tryd.ntmps33
    go_wp2_with fail
    refine (add_any a b w HA.out HB.out).mono ?_
    rintro e w' ⟨rfl, rfl⟩
    rw [E.out]
    unfold two
    go_wp2
    go_ret
    exact ⟨by rw [C.out]; rfl, rfl⟩
  · have E := Lib.hid (show addS a b = (0, 9) from by unfold addS; rw [if_neg h1])
    by_cases h2 : a < 0
    · have C := Lib.hid (show capS a b = -9223372036854775808 from by unfold in64 at *; unfold capS; rw [if_neg (by omega), if_pos (by omega)])
      clear ha hb
      go_enter Tryd.func33, Tryd.ntmps33
      go_wp2_with fail
      refine (add_any a b w HA.out HB.out).mono ?_
      rintro e w' ⟨rfl, rfl⟩
      rw [E.out]
      unfold two
      go_wp2
      go_ret
      exact ⟨by rw [C.out]; rfl, rfl⟩
    · have C := Lib.hid (show capS a b = 9223372036854775807 from by unfold in64 at *; unfold capS; rw [if_pos (by omega)])
      clear ha hb
      go_enter Tryd.func33, Tryd.ntmps33
      go_wp2_with fail
      refine (add_any a b w HA.out HB.out).mono ?_
      rintro e w' ⟨rfl, rfl⟩
      rw [E.out]
      unfold two
      go_wp2
      go_ret
      exact ⟨by rw [C.out]; rfl, rfl⟩

end Go.Proofs.YtojnalpmibpchaaDoor
