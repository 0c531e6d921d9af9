/-
  Contract of index.Key.
-/
import Derived.Test.YtlogkhifgkkjeaaEMem
import Derived.Test.YtlogkhifgkkjeaaIMath
namespace Go.Proofs.Ytlogkhifgkkjeaa
open Go.RowKit
set_option linter.unusedVariables false
set_option linter.unusedSimpArgs false

theorem key_any (s : Tx) (w : World) : Calls Try.prog 41 #[.string (bs s)] w fun e w' => e = .returned (.bool (decide (keyB s))) ∧ w = w' := by
  have hs := bs_size s
  by_cases h1 : 1 ≤ s.length
  · have h1z : decide ((1 : Int) ≤ ((bs s).size : Int)) = true := decide_eq_true (by omega)
    go_enter Try.func41, Try.ntmps41
    go_wp2
    go_ret
    exact ⟨ret_bool (decide_eq_decide.2 (by unfold keyB; omega)), rfl⟩
  · have h1z : decide ((1 : Int) ≤ ((bs s).size : Int)) = false := decide_eq_false (by omega)
    go_enter Try.func41, Try.ntmps41
    go_wp2
    go_ret
    exact ⟨ret_bool (decide_eq_false (by unfold keyB; omega)).symm, rfl⟩

end Go.Proofs.Ytlogkhifgkkjeaa
