/-
  Contracts of the functions of package delta that tell a number's code: width, prefixSize, onesOf, Size, Put.
  Condition (Put): the Writer has fewer than 2^40 - 68 bits.
-/
import Derived.Test.YtoanifeffegkiaaDMath
import Derived.Test.YtoanifeffegkiaaUse
namespace Go.Proofs.Ytoanifeffegkiaa
open Go.RowKit
set_option linter.unusedVariables false
set_option linter.unusedSimpArgs false

theorem zig_Z (n : Int) (h : in64 n) : zig n = (zigZ n : Int) := by unfold in64 at h; unfold zig zigZ; split <;> omega
theorem zag_Z (u : Nat) : zag (u : Int) = zagZ u := by unfold zag zagZ; split <;> split <;> omega
theorem zigZ_any (n : Int) (w : World) (h : in64 n) :
    Calls Try.prog 29 #[.int .i64 n] w fun e w' => e = .returned (.int .u64 (zigZ n : Int)) ∧ w = w' := by
  have := zig_any n w h.1 h.2
  rwa [zig_Z n h] at this
theorem rzigZ_any (n : Int) (w : World) (h : in64 n) :
    Calls Try.prog 36 #[.int .i64 n] w fun e w' => e = .returned (.int .u64 (zigZ n : Int)) ∧ w = w' := by
  have := rzig_any n w h.1 h.2
  rwa [zig_Z n h] at this
theorem zagZ_any (u : Nat) (w : World) (h : u < 18446744073709551616) :
    Calls Try.prog 58 #[.int .u64 (u : Int)] w fun e w' => e = .returned (.int .i64 (zagZ u)) ∧ w = w' := by
  have := zag_any (u : Int) w (by omega) (by omega)
  rwa [zag_Z u] at this

set_option maxHeartbeats 400000 in
theorem width_any (k : Nat) (w : World) (h : k ≤ 4) :
    Calls Try.prog 33 #[.int .i64 (k : Int)] w fun e w' => e = .returned (.int .i64 (wid k : Int)) ∧ w = w' := by
  rcases le4 h with rfl | rfl | rfl | rfl | rfl
  all_goals
    go_enter Try.func33, Try.ntmps33
    go_wp2
    go_ret
    exact ⟨rfl, rfl⟩

set_option maxHeartbeats 400000 in
theorem prefix_any (k : Nat) (w : World) (h : k ≤ 4) :
    Calls Try.prog 31 #[.int .i64 (k : Int)] w fun e w' => e = .returned (.int .i64 (headN k : Int)) ∧ w = w' := by
  rcases le4 h with rfl | rfl | rfl | rfl | rfl
  all_goals
    go_enter Try.func31, Try.ntmps31
    go_wp2
    go_ret
    exact ⟨rfl, rfl⟩

theorem shift_ne (u m : Nat) (h : u / 2 ^ m ≠ 0) : (((u : Int) / 2 ^ m) != 0) = true := by
  have e : ((u : Int) / 2 ^ m) = ((u / 2 ^ m : Nat) : Int) := by simp
  rw [bne_iff_ne, e]; omega
theorem shift_eq (u m : Nat) (h : u / 2 ^ m = 0) : (((u : Int) / 2 ^ m) != 0) = false := by
  have e : ((u : Int) / 2 ^ m) = ((u / 2 ^ m : Nat) : Int) := by simp
  rw [e, h]; rfl

set_option maxHeartbeats 400000 in
theorem onesOf_any (u : Nat) (w : World) (hu : u < 18446744073709551616) :
    Calls Try.prog 30 #[.int .u64 (u : Int)] w fun e w' => e = .returned (.int .i64 (onesN u : Int)) ∧ w = w' := by
  have h4 := onesN_le u
  go_enter Try.func30, Try.ntmps30
  go_wp2
  go_loop [3] (fun t => ∃ k : Nat, k ≤ onesN u ∧ t = .int .i64 (k : Int)) (fun t => onesN u - (intOf t).toNat)
  case atStart => exact ⟨0, Nat.zero_le _, rfl⟩
  case round =>
    obtain ⟨k, hk, rfl⟩ := hrel
    have hs := onesN_shift u k hu (by omega)
    have hw := wid_le k
    by_cases hlt : k < onesN u
    · have hne := shift_ne u (wid k) (by intro h; have := hs.1 h; omega)
      clear hs
      go_wp2_with fail
      refine (width_any k _ (by omega)).mono ?_
      rintro e w' ⟨rfl, rfl⟩
      generalize wid k = m at *
      go_wp2
      go_round
      case rel => exact ⟨k + 1, by omega, by go_num⟩
      case measure => simp [intOf]; omega
    · have heq := shift_eq u (wid k) (hs.2 (by omega))
      clear hs
      go_wp2_with fail
      refine (width_any k _ (by omega)).mono ?_
      rintro e w' ⟨rfl, rfl⟩
      generalize wid k = m at *
      go_wp2
      go_ret
      exact ⟨ret_int (by omega), rfl⟩

set_option maxHeartbeats 400000 in
theorem size_any (u : Nat) (w : World) (hu : u < 18446744073709551616) :
    Calls Try.prog 18 #[.int .u64 (u : Int)] w fun e w' => e = .returned (.int .i64 (csize u : Int)) ∧ w = w' := by
  have h4 := onesN_le u
  have HC := Lib.hid (show csize u = headN (onesN u) + wid (onesN u) from rfl)
  have hw := wid_le (onesN u)
  have hh : headN (onesN u) ≤ 4 := by unfold headN; omega
  go_enter Try.func18, Try.ntmps18
  go_wp2_with fail
  refine (onesOf_any u _ hu).mono ?_
  rintro e w' ⟨rfl, rfl⟩
  generalize onesN u = k at *
  go_wp2_with fail
  refine (prefix_any k _ h4).mono ?_
  rintro e w' ⟨rfl, rfl⟩
  generalize headN k = a at *
  go_wp2_with fail
  refine (width_any k _ h4).mono ?_
  rintro e w' ⟨rfl, rfl⟩
  generalize wid k = b at *
  go_wp2
  go_ret
  exact ⟨ret_int (by rw [HC.out]; omega), rfl⟩

theorem pre_bits : ∀ k, k ≤ 4 → pre k = bitsOf ((2 ^ k - 1) * 2 ^ (headN k - k)) (headN k) := by
  intro k h
  rcases le4 h with rfl | rfl | rfl | rfl | rfl <;> decide

set_option maxHeartbeats 400000 in
theorem dput_nil (u : Nat) (w : World) (hu : u < 18446744073709551616) :
    Calls Try.prog 11 #[.pointer none, .int .u64 (u : Int)] w fun e w' => e = .returned (.int .i64 11) ∧ w = w' := by
  have h4 := onesN_le u
  go_enter Try.func11, Try.ntmps11
  go_wp2_with fail
  refine (onesOf_any u _ hu).mono ?_
  rintro e w' ⟨rfl, rfl⟩
  generalize onesN u = k at *
  rcases le4 h4 with rfl | rfl | rfl | rfl | rfl
  all_goals
    clear h4
    go_wp2_with fail
    refine (prefix_any _ _ (by decide)).mono ?_
    rintro e w' ⟨rfl, rfl⟩
    rw [show ((headN _ : Nat) : Int) = _ from rfl]
    simp only [headN]
    go_wp2_with fail
    refine (put_nil _ _ _).mono ?_
    rintro e w' ⟨rfl, rfl⟩
    go_wp2
    go_ret
    exact ⟨rfl, rfl⟩

theorem code_two (u : Nat) (xs : List Bool) {k : Nat} (hk : onesN u = k) : xs ++ code u = xs ++ pre k ++ bitsOf u (wid k) := by rw [code, hk, List.append_assoc]

set_option maxHeartbeats 800000 in
theorem dput_any (b : Nat) (xs : List Bool) (u : Nat) (w : World) (hw : WrAt w b xs) (hl : xs.length + 68 < 1099511627776) (hu : u < 18446744073709551616) :
    Calls Try.prog 11 #[.pointer (some ⟨b, 0, none⟩), .int .u64 (u : Int)] w (PutN b (xs ++ code u) w) := by
  have h4 := onesN_le u
  have hf := onesN_fits u hu
  go_enter Try.func11, Try.ntmps11
  go_wp2_with fail
  refine (onesOf_any u _ hu).mono ?_
  rintro e w' ⟨rfl, rfl⟩
  obtain ⟨k, hk⟩ : ∃ k, onesN u = k := ⟨_, rfl⟩
  have HK := Lib.hid (code_two u xs hk)
  have HP := Lib.hid (pre_bits k (by omega))
  have hpl : (pre k).length ≤ 4 := by rw [pre_length _ (by omega)]; unfold headN; omega
  rw [hk] at h4 hf ⊢
  clear hk
  generalize pre k = pk at *
  rcases le4 h4 with rfl | rfl | rfl | rfl | rfl
  all_goals
    clear h4
    go_wp2_with fail
    refine (prefix_any _ _ (by decide)).mono ?_
    rintro e w' ⟨rfl, rfl⟩
    rw [show ((headN _ : Nat) : Int) = _ from rfl]
    simp only [headN]
    go_wp2_with fail
    refine (put_okI b xs _ _ _ hw (by simp; omega) (by decide) (by decide) (by decide) (by decide) (by decide)).mono ?_
    rintro e W2 ⟨rfl, hw2, g2⟩
    clear hw
    have hw2' : WrAt W2 b (xs ++ pk) := by rw [HP.out]; exact hw2
    clear hw2
    go_wp2_with fail
    refine (width_any _ _ (by decide)).mono ?_
    rintro e w' ⟨rfl, rfl⟩
    have hl2 : (xs ++ pk).length ≤ xs.length + 4 := by rw [List.length_append]; omega
    go_wp2_with fail
    refine (put_okI b _ _ _ _ hw2' (by simp only [Int.toNat_natCast, wid]; omega) (by omega) (by omega) (by decide) (by decide) (by simp only [Int.toNat_natCast]; exact hf)).mono ?_
    rintro e W3 ⟨rfl, hw3, g3⟩
    simp only [Int.toNat_natCast] at hw3
    go_wp2
    go_ret
    exact ⟨rfl, by rw [HK.out]; exact hw3, gb_trans g2 g3⟩

end Go.Proofs.Ytoanifeffegkiaa
