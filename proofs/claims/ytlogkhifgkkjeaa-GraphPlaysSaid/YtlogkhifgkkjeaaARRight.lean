/-
  Contract of what the document says of buckets' size and alignment.
-/
import Derived.Test.YtlogkhifgkkjeaaBase
import Derived.Test.YtlogkhifgkkjeaaAMath
namespace Go.Proofs.Ytlogkhifgkkjeaa
open Go.RowKit
set_option linter.unusedVariables false
set_option linter.unusedSimpArgs false

set_option maxHeartbeats 400000 in
theorem rrightB_any (size align : Int) (w : World) :
    Calls Try.prog 46 #[.int .i64 size, .int .i64 align] w fun e w' => e = .returned (.bool (decide (rightB size align))) ∧ w = w' := by
  by_cases h0 : 1 ≤ size
  · by_cases h3 : size ≤ 1099511627776
    · by_cases h1 : 0 ≤ align
      · by_cases h2 : align < size
        · have E := Lib.hid (show decide (rightB size align) = true from decide_eq_true ⟨⟨by omega, h3⟩, h1, h2⟩)
          go_enter Try.func46, Try.ntmps46
          go_wp2
          go_ret
          exact ⟨ret_bool E.out.symm, rfl⟩
        · have E := Lib.hid (show decide (rightB size align) = false from decide_eq_false (fun h => h2 h.2.2))
          go_enter Try.func46, Try.ntmps46
          go_wp2
          go_ret
          exact ⟨ret_bool E.out.symm, rfl⟩
      · have E := Lib.hid (show decide (rightB size align) = false from decide_eq_false (fun h => h1 h.2.1))
        go_enter Try.func46, Try.ntmps46
        go_wp2
        go_ret
        exact ⟨ret_bool E.out.symm, rfl⟩
    · have E := Lib.hid (show decide (rightB size align) = false from decide_eq_false (fun h => h3 h.1.2))
      go_enter Try.func46, Try.ntmps46
      go_wp2
      go_ret
      exact ⟨ret_bool E.out.symm, rfl⟩
  · have E := Lib.hid (show decide (rightB size align) = false from decide_eq_false (fun h => h0 h.1.1))
    go_enter Try.func46, Try.ntmps46
    go_wp2
    go_ret
    exact ⟨ret_bool E.out.symm, rfl⟩

end Go.Proofs.Ytlogkhifgkkjeaa
