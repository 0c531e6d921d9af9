/-
  Contract of unicode.SimpleFold: of ASCII, and of 383 (a long s).
-/
import Derived.Test.YtojnalpmibpchaaDoorALaidU
namespace Go.Proofs.YtojnalpmibpchaaDoor
open Go.RowKit
set_option linter.unusedVariables false
set_option linter.unusedSimpArgs false

theorem afold_in (r : Nat) (h : r < 128) : 0 ≤ afold r ∧ afold r ≤ 65535 := by
  unfold afold
  (repeat' split) <;> omega
set_option maxRecDepth 100000 in
set_option maxHeartbeats 800000 in
theorem sfold_ascii (r : Nat) (w : World) (hr : r < 128) (h : AsciiAt w) :
    Calls Tryd.prog 31 #[.int .i32 (r : Int)] w fun e w' => e = .returned (.int .i32 (afold r)) ∧ w = w' := by
  have c := h.2 r hr
  have hin := afold_in r hr
  obtain ⟨x, hx⟩ : ∃ x, afold r = x := ⟨_, rfl⟩
  rw [hx] at c hin ⊢
  obtain ⟨h1, h2⟩ := hin
  have hr' : (r : Int) < 128 := by omega
  clear h hx
  go_enter Tryd.func31, Tryd.ntmps31
  go_wp2
  go_ret
  exact ⟨rfl, rfl⟩

/-- The steps of the search. -/
def OrbStep (lo hi : Int) : Prop := (lo = 0 ∧ hi = 94) ∨ (lo = 0 ∧ hi = 47) ∨ (lo = 0 ∧ hi = 23) ∨ (lo = 0 ∧ hi = 11) ∨ (lo = 6 ∧ hi = 11) ∨ (lo = 9 ∧ hi = 11) ∨ (lo = 9 ∧ hi = 10) ∨ (lo = 10 ∧ hi = 10)
set_option maxRecDepth 100000 in
set_option maxHeartbeats 4000000 in
theorem sfold_383 (w : World) (h : OrbAt w) :
    Calls Tryd.prog 31 #[.int .i32 383] w fun e w' => e = .returned (.int .i32 83) ∧ w = w' := by
  obtain ⟨_, b, off, cap, c, hb, hc⟩ := h
  obtain ⟨p1, p2, p3, p4, p5, p6, p7⟩ := orb_path
  have c47 := hc 47 _ _ (by omega) p1
  have c23 := hc 23 _ _ (by omega) p2
  have c11 := hc 11 _ _ (by omega) p3
  have c5 := hc 5 _ _ (by omega) p4
  have c8 := hc 8 _ _ (by omega) p5
  have c10 := hc 10 _ _ (by omega) p6
  have c9 := hc 9 _ _ (by omega) p7
  obtain ⟨c47, _⟩ := c47
  obtain ⟨c23, _⟩ := c23
  obtain ⟨c11, _⟩ := c11
  obtain ⟨c5, _⟩ := c5
  obtain ⟨c8, _⟩ := c8
  obtain ⟨c10, d10⟩ := c10
  obtain ⟨c9, _⟩ := c9
  simp only [Nat.reduceMul] at c47 c23 c11 c5 c8 c10 c9 d10
  clear hc p1 p2 p3 p4 p5 p6 p7
  go_enter Tryd.func31, Tryd.ntmps31
  go_wp2
  go_loopw [3, 4] (fun i j wr => ∃ lo hi : Int, i = .int .i64 lo ∧ j = .int .i64 hi ∧ Hid (OrbStep lo hi) ∧ w = wr) (fun i j _ => (intOf j - intOf i).toNat)
  case atStart => exact ⟨0, 94, rfl, rfl, Lib.hid (.inl ⟨rfl, rfl⟩), rfl⟩
  case round =>
    obtain ⟨lo, hi, rfl, rfl, HO, rfl⟩ := hrel
    rcases HO.out with ⟨rfl, rfl⟩ | ⟨rfl, rfl⟩ | ⟨rfl, rfl⟩ | ⟨rfl, rfl⟩ | ⟨rfl, rfl⟩ | ⟨rfl, rfl⟩ | ⟨rfl, rfl⟩ | ⟨rfl, rfl⟩
    · clear HO
      go_wp2
      go_roundw
      case rel => exact ⟨0, 47, rfl, rfl, Lib.hid (by unfold OrbStep; simp), by trivial⟩
      case measure => simp [intOf]
    · clear HO
      go_wp2
      go_roundw
      case rel => exact ⟨0, 23, rfl, rfl, Lib.hid (by unfold OrbStep; simp), by trivial⟩
      case measure => simp [intOf]
    · clear HO
      go_wp2
      go_roundw
      case rel => exact ⟨0, 11, rfl, rfl, Lib.hid (by unfold OrbStep; simp), by trivial⟩
      case measure => simp [intOf]
    · clear HO
      go_wp2
      go_roundw
      case rel => exact ⟨6, 11, rfl, rfl, Lib.hid (by unfold OrbStep; simp), by trivial⟩
      case measure => simp [intOf]
    · clear HO
      go_wp2
      go_roundw
      case rel => exact ⟨9, 11, rfl, rfl, Lib.hid (by unfold OrbStep; simp), by trivial⟩
      case measure => simp [intOf]
    · clear HO
      go_wp2
      go_roundw
      case rel => exact ⟨9, 10, rfl, rfl, Lib.hid (by unfold OrbStep; simp), by trivial⟩
      case measure => simp [intOf]
    · clear HO
      go_wp2
      go_roundw
      case rel => exact ⟨10, 10, rfl, rfl, Lib.hid (by unfold OrbStep; simp), by trivial⟩
      case measure => simp [intOf]
    · clear HO
      go_wp2
      go_ret
      exact ⟨rfl, rfl⟩

end Go.Proofs.YtojnalpmibpchaaDoor
