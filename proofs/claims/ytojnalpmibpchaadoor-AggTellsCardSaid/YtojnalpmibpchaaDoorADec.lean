/-
  Contract of utf8.DecodeRuneInString of a text that begins with a letter of ASCII; what a rune of other bytes is.
-/
import Derived.Test.YtojnalpmibpchaaDoorASimple
import Derived.Test.YtojnalpmibpchaaDoorAFoldT
import Derived.Lib.OthersKept
import Derived.Lib.TrimU
namespace Go.Proofs.YtojnalpmibpchaaDoor
open Go.RowKit
set_option linter.unusedVariables false
set_option linter.unusedSimpArgs false

theorem decode_one (s : ByteArray) (pos : Nat) (h : pos < s.size) (ha : 128 ≤ (s[pos]'h).toNat) (hw : (Utf8.decode s pos).2 = 1) : (Utf8.decode s pos).1 = 65533 := by
  have hn : ¬ (s[pos]'h).toNat < 128 := by omega
  revert hw
  simp only [Utf8.decode, get_at s pos h, hn, if_false]
  repeat' split
  all_goals simp_all [Utf8.runeError]

set_option maxRecDepth 100000 in
set_option maxHeartbeats 800000 in
theorem dec_ascii (t : ByteArray) (w : World) (h0 : 0 < t.size) (h : (t[0]'h0).toNat < 128) :
    Calls Tryd.prog 30 #[.string t] w fun e w' => e = .returned (.tuple #[.int .i32 ((t[0]'h0).toNat : Int), .int .i64 1]) ∧ w = w' := by
  obtain ⟨c, hc⟩ : ∃ c : UInt8, t[0]'h0 = c := ⟨_, rfl⟩
  have HC := Lib.hid hc
  rw [hc] at h ⊢
  have h' : (c.toNat : Int) < 128 := by omega
  have t4 : ¬ t.toList = [] := by
    rw [Lib.toList_data]
    intro e
    have := congrArg List.length e
    rw [size_list, List.length_nil] at this
    omega
  have t5 : t.toList.isEmpty = false := by simpa using t4
  go_enter Tryd.func30, Tryd.ntmps30
  go_wp2
  go_ret2
  exact ⟨rfl, rfl⟩

end Go.Proofs.YtojnalpmibpchaaDoor
