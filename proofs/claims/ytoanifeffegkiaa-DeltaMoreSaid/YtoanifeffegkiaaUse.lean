/-
  The contracts of Get and Put of package bits in the form that loops use: the number under a name of its own, the count of bits any int.
-/
import Derived.Test.YtoanifeffegkiaaPlain
namespace Go.Proofs.Ytoanifeffegkiaa
open Go.RowKit
set_option linter.unusedVariables false

theorem num_take_lt (bs : List Bool) (p m : Nat) : num ((bs.drop p).take m) < 2 ^ m := by
  refine Nat.lt_of_lt_of_le (num_lt _) (Nat.pow_le_pow_right (by omega) (List.length_take_le _ _))
theorem num_take_lt64 (bs : List Bool) (p m : Nat) (hm : m ≤ 64) : num ((bs.drop p).take m) < 18446744073709551616 :=
  Nat.lt_of_lt_of_le (num_take_lt bs p m) (Nat.pow_le_pow_right (by omega) hm)

def GetE (b : Nat) (bs : List Bool) (p : Nat) (n : Int) (w : World) (e : Ending) (w' : World) : Prop :=
  ∃ u m : Nat, n = (m : Int) ∧ e = .returned (.tuple #[.int .u64 (u : Int), .int .i64 0]) ∧ Hid (u = num ((bs.drop p).take m)) ∧ u < 18446744073709551616 ∧ Hid (u < 2 ^ m) ∧ RdAt w' b bs (p + m) ∧ w.grownBy w' (some b)

theorem get_okE (b : Nat) (bs : List Bool) (p : Nat) (n : Int) (w : World) (h : RdAt w b bs p) (hn0 : 0 ≤ n) (hn : n ≤ 64) (hlt : (p : Int) + n ≤ bs.length) :
    Calls Try.prog 46 #[.pointer (some ⟨b, 0, none⟩), .int .i64 n] w (GetE b bs p n w) := by
  obtain ⟨m, rfl⟩ := Int.eq_ofNat_of_zero_le hn0
  refine (get_ok b bs p m w h (by omega) (by omega)).mono ?_
  rintro e w' ⟨rfl, hr, hg⟩
  exact ⟨_, m, rfl, rfl, rfl, num_take_lt64 bs p m (by omega), num_take_lt bs p m, hr, hg⟩

theorem get_part (bs : List Bool) (p m : Nat) (h : p + m ≤ bs.length) : bs.take p ++ bitsOf (num ((bs.drop p).take m)) m = bs.take (p + m) := by
  have hl : ((bs.drop p).take m).length = m := by simp; omega
  have e := bitsOf_num ((bs.drop p).take m)
  rw [hl] at e
  rw [e, List.take_add]

end Go.Proofs.Ytoanifeffegkiaa
