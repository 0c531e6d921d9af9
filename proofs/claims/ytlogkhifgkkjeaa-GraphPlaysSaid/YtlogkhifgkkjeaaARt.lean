/-
  Contract of agg.Right.
-/
import Derived.Test.YtlogkhifgkkjeaaBase
namespace Go.Proofs.Ytlogkhifgkkjeaa
open Go.RowKit
set_option linter.unusedVariables false
set_option linter.unusedSimpArgs false

def kok (k : Int) : Prop := 1 ≤ k ∧ k ≤ 7
theorem kinds {k : Int} (h : kok k) : k = 1 ∨ k = 2 ∨ k = 3 ∨ k = 4 ∨ k = 5 ∨ k = 6 ∨ k = 7 := by unfold kok at h; omega
instance (k : Int) : Decidable (kok k) := inferInstanceAs (Decidable (_ ∧ _))
set_option maxHeartbeats 400000 in
theorem aright_any0 (k : Int) (w : World) : Calls Try.prog 42 #[.int .i64 k] w fun e w' => e = .returned (.bool (decide (1 ≤ k ∧ k ≤ 7))) ∧ w = w' := by
  by_cases h : 1 ≤ k
  · by_cases h' : k ≤ 7
    all_goals
      go_enter Try.func42, Try.ntmps42
      go_wp2
      go_ret
      exact ⟨ret_bool (by simp; omega), rfl⟩
  · go_enter Try.func42, Try.ntmps42
    go_wp2
    go_ret
    exact ⟨ret_bool (by simp; omega), rfl⟩
theorem aright_any (k : Int) (w : World) : Calls Try.prog 42 #[.int .i64 k] w fun e w' => e = .returned (.bool (decide (kok k))) ∧ w = w' := aright_any0 k w

end Go.Proofs.Ytlogkhifgkkjeaa
