/-
  Contract of strings.EqualFold of ASCII texts of the same length.
-/
import Derived.Test.YtojnalpmibpchaaDoorPUp
import Derived.Test.YtojnalpmibpchaaDoorRowB
import Derived.Lib.Walk
import Derived.Laws.Strings3
import Derived.Deep.LoopGhost
namespace Go.Proofs.YtojnalpmibpchaaDoor
open Go.RowKit Go.Lib
set_option linter.unusedVariables false
set_option linter.unusedSimpArgs false

/-- All bytes are letters of ASCII. -/
def Asc (s : ByteArray) : Prop := ∀ (j : Nat) (h : j < s.size), s[j].toNat < 128
/-- The first j letters are the same, but for cases. -/
def Alike (s t : ByteArray) (j : Nat) : Prop := ∀ k (h1 : k < s.size) (h2 : k < t.size), k < j → grN s[k].toNat = grN t[k].toNat
theorem alike_all {s t : ByteArray} (h : Alike s t s.size) (hl : s.size = t.size) : upper s = upper t := by
  apply list_inj
  unfold upper
  simp only
  apply List.ext_getElem
  · rw [List.length_map, List.length_map, size_list, size_list]; exact hl
  · intro i h1 h2
    have h1' : i < s.size := by rwa [List.length_map, size_list] at h1
    have h2' : i < t.size := by omega
    rw [upper_get s i h1', upper_get t i h2']
    have := h i h1' h2' h1'
    apply UInt8.toNat_inj.1
    rw [grU_nat, grU_nat, this]
theorem alike_not {s t : ByteArray} {j : Nat} (h1 : j < s.size) (h2 : j < t.size) (h : grN s[j].toNat ≠ grN t[j].toNat) : upper s ≠ upper t := by
  intro e
  have e2 : (s.data.toList.map grU)[j]? = (t.data.toList.map grU)[j]? := by
    have := congrArg (fun x : ByteArray => x.data.toList[j]?) e
    unfold upper at this
    simpa using this
  rw [List.getElem?_eq_getElem (by rw [List.length_map, size_list]; exact h1), List.getElem?_eq_getElem (by rw [List.length_map, size_list]; exact h2), upper_get s j h1, upper_get t j h2] at e2
  have e3 := congrArg UInt8.toNat (Option.some.inj e2)
  rw [grU_nat, grU_nat] at e3
  exact h e3

set_option maxHeartbeats 8000000 in
set_option maxRecDepth 1000000 in
theorem fold_ascii (s t : ByteArray) (w : World) (hs : s.size ≤ 1099511627776) (hl : s.size = t.size) (has : Asc s) (hat : Asc t) :
    Calls Tryd.prog 21 #[.string s, .string t] w fun e w' => e = .returned (.bool (decide (upper s = upper t))) ∧ w = w' := by
  have HAS := Lib.hid has
  have HAT := Lib.hid hat
  have HL := Lib.hid hl
  obtain ⟨M, hM⟩ : ∃ M, s.size = M := ⟨_, rfl⟩
  have hMt : t.size = M := by omega
  have hmin : min (s.size : Int) (t.size : Int) = (M : Int) := by omega
  clear has hat
  go_enter Tryd.func21, Tryd.ntmps21
  go_wp2
  go_step3
  go_wp2
  go_loopw [5] (fun i wr => ∃ j : Nat, j ≤ M ∧ i = .int .i64 (j : Int) ∧ Hid (Alike s t j) ∧ w = wr) (fun i _ => M - (RowKit.intOf i).toNat)
  case atStart => exact ⟨0, Nat.zero_le _, rfl, Lib.hid (fun k _ _ h => by omega), rfl⟩
  case round =>
    obtain ⟨j, hj, rfl, HK, rfl⟩ := hrel
    by_cases hjm : j < M
    · have h1 : j < s.size := by omega
      have h2 : j < t.size := by omega
      have HS := Lib.hid (show grN s[j].toNat = grN t[j].toNat → Alike s t (j + 1) from fun e k k1 k2 hk => by
        by_cases q : k = j
        · subst q; exact e
        · exact HK.out k k1 k2 (by omega))
      have HNO := Lib.hid (alike_not h1 h2)
      obtain ⟨x, hx⟩ : ∃ x : UInt8, s[j]'h1 = x := ⟨_, rfl⟩
      obtain ⟨y, hy⟩ : ∃ y : UInt8, t[j]'h2 = y := ⟨_, rfl⟩
      have hx128 : x.toNat < 128 := by rw [← hx]; exact HAS.out j h1
      have hy128 : y.toNat < 128 := by rw [← hy]; exact HAT.out j h2
      rw [hx, hy] at HS
      rw [hx, hy] at HNO
      have hor : bits .or .u8 (x.toNat : Int) (y.toNat : Int) = ((x.toNat ||| y.toNat : Nat) : Int) := u8_or_nat _ _ (by omega) (by omega)
      have hor128 : ¬ ((128 : Int) ≤ ((x.toNat ||| y.toNat : Nat) : Int)) := by have := Nat.or_lt_two_pow (n := 7) hx128 hy128; omega
      have HG : Hid (grN x.toNat = grN y.toNat ↔ x.toNat = y.toNat ∨ (97 ≤ x.toNat ∧ x.toNat ≤ 122 ∧ y.toNat + 32 = x.toNat) ∨ (97 ≤ y.toNat ∧ y.toNat ≤ 122 ∧ x.toNat + 32 = y.toNat)) := Lib.hid (by
        unfold grN
        split <;> split <;> omega)
      go_wp2
      all_goals (try simp only [beq_iff_eq, beq_eq_false_iff_ne, ne_eq] at *)
      all_goals first
        | (go_roundw
           case rel => exact ⟨j + 1, by omega, by go_num, Lib.hid (HS.out (HG.out.2 (by omega))), by trivial⟩
           case measure => simp [RowKit.intOf]; omega)
        | (go_ret
           exact ⟨ret_bool (decide_eq_false (HNO.out (fun e => by have := HG.out.1 e; omega))).symm, rfl⟩)
    · obtain rfl : j = M := by omega
      have E := Lib.hid (alike_all (by rw [hM]; exact HK.out) HL.out)
      have hb : ((s.size : Int) == (t.size : Int)) = true := beq_iff_eq.2 (by omega)
      go_wp2
      simp only [Exit.noGoto]
      go_ret
      exact ⟨ret_bool (decide_eq_true E.out).symm, rfl⟩

end Go.Proofs.YtojnalpmibpchaaDoor
