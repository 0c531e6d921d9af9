/-
  A sum that is at most as far as to the ends: plain.
-/
import Derived.Test.YtojnalpmibpchaaDoorPSum
namespace Go.Proofs.YtojnalpmibpchaaDoor
open Go.RowKit
set_option linter.unusedVariables false
set_option linter.unusedSimpArgs false

def capS (a b : Int) : Int := if 9223372036854775807 < a + b then 9223372036854775807 else if a + b < -9223372036854775808 then -9223372036854775808 else a + b
theorem cap_add (a b : Int) (h : (addS a b).2 = 0) : capS a b = (addS a b).1 := by
  unfold addS at *
  unfold capS
  split at h
  · rename_i h'; rw [if_pos h', if_neg (by omega), if_neg (by omega)]
  · simp at h

end Go.Proofs.YtojnalpmibpchaaDoor
