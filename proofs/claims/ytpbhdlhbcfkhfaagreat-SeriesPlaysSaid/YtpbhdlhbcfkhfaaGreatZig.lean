/-
  Contracts of bits.Zig, and of the document's own Zig.
-/
import Derived.Test.YtpbhdlhbcfkhfaaGreatDMath
namespace Go.Proofs.YtpbhdlhbcfkhfaaGreat
open Go.RowKit
set_option linter.unusedVariables false
set_option linter.unusedSimpArgs false

def zig (n : Int) : Int := if 0 ≤ n then 2 * n else -2 * n - 1
set_option maxHeartbeats 400000 in
theorem zig_any (n : Int) (w : World) (h1 : -9223372036854775808 ≤ n) (h2 : n ≤ 9223372036854775807) :
    Calls Tryz.prog 98 #[.int .i64 n] w fun e w' => e = .returned (.int .u64 (zig n)) ∧ w = w' := by
  by_cases h : 0 ≤ n
  all_goals
    go_enter Tryz.func98, Tryz.ntmps98
    go_wp2
    go_ret
    exact ⟨ret_int (by unfold zig; split <;> omega), rfl⟩



theorem zig_Z (n : Int) (h : in64 n) : zig n = (zigZ n : Int) := by unfold in64 at h; unfold zig zigZ; split <;> omega
theorem zigZ_any (n : Int) (w : World) (h : in64 n) :
    Calls Tryz.prog 98 #[.int .i64 n] w fun e w' => e = .returned (.int .u64 (zigZ n : Int)) ∧ w = w' := by
  have := zig_any n w h.1 h.2
  rwa [zig_Z n h] at this

end Go.Proofs.YtpbhdlhbcfkhfaaGreat
