/-
  Contracts of the functions of package delta that tell how long a number's code is: width, prefixSize, onesOf, Size.
-/
import Derived.Test.YtpbhdlhbcfkhfaaGreatZig
namespace Go.Proofs.YtpbhdlhbcfkhfaaGreat
open Go.RowKit
set_option linter.unusedVariables false
set_option linter.unusedSimpArgs false

set_option maxHeartbeats 400000 in
theorem width_any (k : Nat) (w : World) (h : k ≤ 4) :
    Calls Tryz.prog 101 #[.int .i64 (k : Int)] w fun e w' => e = .returned (.int .i64 (wid k : Int)) ∧ w = w' := by
  rcases le4 h with rfl | rfl | rfl | rfl | rfl
  all_goals
    go_enter Tryz.func101, Tryz.ntmps101
    go_wp2
    go_ret
    exact ⟨rfl, rfl⟩

set_option maxHeartbeats 400000 in
theorem prefix_any (k : Nat) (w : World) (h : k ≤ 4) :
    Calls Tryz.prog 100 #[.int .i64 (k : Int)] w fun e w' => e = .returned (.int .i64 (headN k : Int)) ∧ w = w' := by
  rcases le4 h with rfl | rfl | rfl | rfl | rfl
  all_goals
    go_enter Tryz.func100, Tryz.ntmps100
    go_wp2
    go_ret
    exact ⟨rfl, rfl⟩

theorem shift_ne (u m : Nat) (h : u / 2 ^ m ≠ 0) : (((u : Int) / 2 ^ m) != 0) = true := by
  have e : ((u : Int) / 2 ^ m) = ((u / 2 ^ m : Nat) : Int) := by simp
  rw [bne_iff_ne, e]; omega
theorem shift_eq (u m : Nat) (h : u / 2 ^ m = 0) : (((u : Int) / 2 ^ m) != 0) = false := by
  have e : ((u : Int) / 2 ^ m) = ((u / 2 ^ m : Nat) : Int) := by simp
  rw [e, h]; rfl

set_option maxHeartbeats 400000 in
theorem onesOf_any (u : Nat) (w : World) (hu : u < 18446744073709551616) :
    Calls Tryz.prog 99 #[.int .u64 (u : Int)] w fun e w' => e = .returned (.int .i64 (onesN u : Int)) ∧ w = w' := by
  have h4 := onesN_le u
  go_enter Tryz.func99, Tryz.ntmps99
  go_wp2
  go_loop [3] (fun t => ∃ k : Nat, k ≤ onesN u ∧ t = .int .i64 (k : Int)) (fun t => onesN u - (intOf t).toNat)
  case atStart => exact ⟨0, Nat.zero_le _, rfl⟩
  case round =>
    obtain ⟨k, hk, rfl⟩ := hrel
    have hs := onesN_shift u k hu (by omega)
    have hw := wid_le k
    by_cases hlt : k < onesN u
    · have hne := shift_ne u (wid k) (by intro h; have := hs.1 h; omega)
      clear hs
      go_wp2_with fail
      refine (width_any k _ (by omega)).mono ?_
      rintro e w' ⟨rfl, rfl⟩
      generalize wid k = m at *
      go_wp2
      go_round
      case rel => exact ⟨k + 1, by omega, by go_num⟩
      case measure => simp [intOf]; omega
    · have heq := shift_eq u (wid k) (hs.2 (by omega))
      clear hs
      go_wp2_with fail
      refine (width_any k _ (by omega)).mono ?_
      rintro e w' ⟨rfl, rfl⟩
      generalize wid k = m at *
      go_wp2
      go_ret
      exact ⟨ret_int (by omega), rfl⟩

set_option maxHeartbeats 400000 in
theorem size_any (u : Nat) (w : World) (hu : u < 18446744073709551616) :
    Calls Tryz.prog 91 #[.int .u64 (u : Int)] w fun e w' => e = .returned (.int .i64 (csize u : Int)) ∧ w = w' := by
  have h4 := onesN_le u
  have HC := Lib.hid (show csize u = headN (onesN u) + wid (onesN u) from rfl)
  have hw := wid_le (onesN u)
  have hh : headN (onesN u) ≤ 4 := by unfold headN; omega
  go_enter Tryz.func91, Tryz.ntmps91
  go_wp2_with fail
  refine (onesOf_any u _ hu).mono ?_
  rintro e w' ⟨rfl, rfl⟩
  generalize onesN u = k at *
  go_wp2_with fail
  refine (prefix_any k _ h4).mono ?_
  rintro e w' ⟨rfl, rfl⟩
  generalize headN k = a at *
  go_wp2_with fail
  refine (width_any k _ h4).mono ?_
  rintro e w' ⟨rfl, rfl⟩
  generalize wid k = b at *
  go_wp2
  go_ret
  exact ⟨ret_int (by rw [HC.out]; omega), rfl⟩

end Go.Proofs.YtpbhdlhbcfkhfaaGreat
