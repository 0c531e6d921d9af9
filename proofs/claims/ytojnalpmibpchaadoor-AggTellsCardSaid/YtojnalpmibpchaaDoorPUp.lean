/-
  Texts in great letters: plain.
-/
import Derived.Test.YtojnalpmibpchaaDoorBase
namespace Go.Proofs.YtojnalpmibpchaaDoor
open Go.RowKit
set_option linter.unusedVariables false

/-- A letter as a great one. -/
def grN (c : Nat) : Nat := if 97 ≤ c ∧ c ≤ 122 then c - 32 else c
def grU (c : UInt8) : UInt8 := UInt8.ofNat (grN c.toNat)
def upper (s : ByteArray) : ByteArray := ⟨(s.data.toList.map grU).toArray⟩
theorem size_list (s : ByteArray) : s.data.toList.length = s.size := by rw [Array.length_toList]; rfl
theorem get_list (s : ByteArray) (i : Nat) (h : i < s.size) : s.data.toList[i]'(by rw [size_list]; exact h) = s[i] := by
  rw [Array.getElem_toList]; rfl
theorem upper_size (s : ByteArray) : (upper s).size = s.size := by
  rw [← size_list, ← size_list]; unfold upper; rw [List.length_map]
theorem upper_get (s : ByteArray) (i : Nat) (h : i < s.size) : (s.data.toList.map grU)[i]'(by rw [List.length_map, size_list]; exact h) = grU s[i] := by
  rw [List.getElem_map, get_list s i h]
theorem list_inj {a b : ByteArray} (h : a.data.toList = b.data.toList) : a = b := by
  obtain ⟨⟨a⟩⟩ := a; obtain ⟨⟨b⟩⟩ := b; simp at h; rw [h]
theorem grN_lt (c : Nat) (h : c < 256) : grN c < 256 := by unfold grN; split <;> omega
theorem grU_nat (c : UInt8) : (grU c).toNat = grN c.toNat := by
  unfold grU
  rw [UInt8.toNat_ofNat', Nat.mod_eq_of_lt (grN_lt _ c.toNat_lt)]

end Go.Proofs.YtojnalpmibpchaaDoor
