/-
  Contracts of what package agg says of buckets' times: canCut, canHold, Start, End. No condition.
-/
import Derived.Test.YtlogkhifgkkjeaaBase
import Derived.Test.YtlogkhifgkkjeaaAMath
namespace Go.Proofs.Ytlogkhifgkkjeaa
open Go.RowKit
set_option linter.unusedVariables false
set_option linter.unusedSimpArgs false

set_option maxHeartbeats 400000 in
theorem cancut_any (size align : Int) (w : World) :
    Calls Try.prog 65 #[.int .i64 size, .int .i64 align] w fun e w' => e = .returned (.bool (decide (rightB size align))) ∧ w = w' := by
  by_cases h1 : 0 ≤ align
  · by_cases h2 : align < size
    · by_cases h3 : size ≤ 1099511627776
      · have E := Lib.hid (show decide (rightB size align) = true from decide_eq_true ⟨⟨by omega, h3⟩, h1, h2⟩)
        go_enter Try.func65, Try.ntmps65
        go_wp2
        go_ret
        exact ⟨ret_bool E.out.symm, rfl⟩
      · have E := Lib.hid (show decide (rightB size align) = false from decide_eq_false (fun h => h3 h.1.2))
        go_enter Try.func65, Try.ntmps65
        go_wp2
        go_ret
        exact ⟨ret_bool E.out.symm, rfl⟩
    · have E := Lib.hid (show decide (rightB size align) = false from decide_eq_false (fun h => h2 h.2.2))
      go_enter Try.func65, Try.ntmps65
      go_wp2
      go_ret
      exact ⟨ret_bool E.out.symm, rfl⟩
  · have E := Lib.hid (show decide (rightB size align) = false from decide_eq_false (fun h => h1 h.2.1))
    go_enter Try.func65, Try.ntmps65
    go_wp2
    go_ret
    exact ⟨ret_bool E.out.symm, rfl⟩

def canT (t : Int) : Bool := decide (0 ≤ t ∧ t ≤ 1099511627776)
set_option maxHeartbeats 400000 in
theorem canhold_any (t : Int) (w : World) :
    Calls Try.prog 66 #[.int .i64 t] w fun e w' => e = .returned (.bool (canT t)) ∧ w = w' := by
  by_cases h1 : 0 ≤ t
  · by_cases h2 : t ≤ 1099511627776
    · have E := Lib.hid (show canT t = true from decide_eq_true ⟨h1, h2⟩)
      go_enter Try.func66, Try.ntmps66
      go_wp2
      go_ret
      exact ⟨ret_bool E.out.symm, rfl⟩
    · have E := Lib.hid (show canT t = false from decide_eq_false (fun h => h2 h.2))
      go_enter Try.func66, Try.ntmps66
      go_wp2
      go_ret
      exact ⟨ret_bool E.out.symm, rfl⟩
  · have E := Lib.hid (show canT t = false from decide_eq_false (fun h => h1 h.1))
    go_enter Try.func66, Try.ntmps66
    go_wp2
    go_ret
    exact ⟨ret_bool E.out.symm, rfl⟩

set_option maxHeartbeats 800000 in
theorem start_any (t size align : Int) (w : World) :
    Calls Try.prog 67 #[.int .i64 t, .int .i64 size, .int .i64 align] w fun e w' => e = .returned (.int .i64 (startB t size align)) ∧ w = w' := by
  by_cases hr : rightB size align
  · have HR := Lib.hid hr
    by_cases hc : 0 ≤ t ∧ t ≤ 1099511627776
    · have tc : canT t = true := decide_eq_true hc
      by_cases ha : t < align
      · have E := Lib.hid (startB_low (size := size) ha)
        go_enter Try.func67, Try.ntmps67
        go_wp2_with fail
        refine (cancut_any _ _ _).mono ?_
        rintro e w' ⟨rfl, rfl⟩
        rw [decide_eq_true HR.out]
        go_wp2_with fail
        refine (canhold_any _ _).mono ?_
        rintro e w' ⟨rfl, rfl⟩
        rw [tc]
        go_wp2
        go_ret
        exact ⟨ret_int E.out.symm, rfl⟩
      · have hs1 := hr.1.1
        have hs2 := hr.1.2
        have ha0 := hr.2.1
        have h3 := whole_le (t - align) size hs1
        have h4 := Int.mul_ediv_add_emod (t - align) size
        rw [Int.mul_comm] at h4
        have h5 := Int.emod_nonneg (t - align) (show size ≠ 0 by omega)
        have h6 := Int.emod_lt_of_pos (t - align) (show 0 < size by omega)
        have E := Lib.hid (show startB t size align = t - (t - align) % size from by rw [startB_of hr (by omega) hc.2]; omega)
        have hm : (t - align).tmod size = (t - align) % size := Int.tmod_eq_emod_of_nonneg (by omega)
        have hsz : size ≠ 0 := by omega
        have hm1 : 0 ≤ (t - align) % size := h5
        have hm2 : (t - align) % size < 1099511627776 := by omega
        clear h3 h4 h5 h6 hr
        generalize (t - align) % size = m at *
        obtain ⟨hc1, hc2⟩ := hc
        go_enter Try.func67, Try.ntmps67
        go_wp2_with fail
        refine (cancut_any _ _ _).mono ?_
        rintro e w' ⟨rfl, rfl⟩
        rw [decide_eq_true HR.out]
        go_wp2_with fail
        refine (canhold_any _ _).mono ?_
        rintro e w' ⟨rfl, rfl⟩
        rw [tc]
        go_wp2
        go_ret
        exact ⟨ret_int (by rw [E.out]; try omega), rfl⟩
    · have tc : canT t = false := decide_eq_false hc
      have E := Lib.hid (show startB t size align = 0 from by
        unfold startB
        rw [if_pos]
        have := hr.2.1
        by_cases h : t < align
        · exact .inr (.inl h)
        · exact .inr (.inr (by omega)))
      clear hc hr
      go_enter Try.func67, Try.ntmps67
      go_wp2_with fail
      refine (cancut_any _ _ _).mono ?_
      rintro e w' ⟨rfl, rfl⟩
      rw [decide_eq_true HR.out]
      go_wp2_with fail
      refine (canhold_any _ _).mono ?_
      rintro e w' ⟨rfl, rfl⟩
      rw [tc]
      go_wp2
      go_ret
      exact ⟨ret_int E.out.symm, rfl⟩
  · have E := Lib.hid (show startB t size align = 0 from by unfold startB; rw [if_pos (.inl hr)])
    have HR := Lib.hid hr
    clear hr
    go_enter Try.func67, Try.ntmps67
    go_wp2_with fail
    refine (cancut_any _ _ _).mono ?_
    rintro e w' ⟨rfl, rfl⟩
    rw [decide_eq_false HR.out]
    go_wp2
    go_ret
    exact ⟨ret_int E.out.symm, rfl⟩

theorem startB_in {t size align : Int} : 0 ≤ startB t size align ∧ startB t size align ≤ 1099511627776 := by
  unfold startB
  by_cases hr : rightB size align
  · by_cases h : t < align ∨ 1099511627776 < t
    · rw [if_pos (.inr h)]; omega
    · have ha := hr.2.1
      have hc := hr.1.1
      have h1 := whole_le (t - align) size hr.1.1
      have h2 := mul_nonneg' (x := t - align) (by omega) hr.1.1
      rw [if_neg]
      · omega
      · rintro (h3 | h3)
        · exact h3 hr
        · exact h h3
  · rw [if_pos (.inl hr)]; omega

set_option maxHeartbeats 800000 in
theorem end_any (b size align : Int) (w : World) :
    Calls Try.prog 58 #[.int .i64 b, .int .i64 size, .int .i64 align] w fun e w' => e = .returned (.int .i64 (endB b size align)) ∧ w = w' := by
  by_cases hr : rightB size align
  · have HR := Lib.hid hr
    by_cases hc : 0 ≤ b ∧ b ≤ 1099511627776
    · have tc : canT b = true := decide_eq_true hc
      by_cases ha : b < align
      · have E := Lib.hid (show endB b size align = align from by rw [endB_of hr hc.1 hc.2, if_pos ha])
        clear hr
        go_enter Try.func58, Try.ntmps58
        go_wp2_with fail
        refine (cancut_any _ _ _).mono ?_
        rintro e w' ⟨rfl, rfl⟩
        rw [decide_eq_true HR.out]
        go_wp2_with fail
        refine (canhold_any _ _).mono ?_
        rintro e w' ⟨rfl, rfl⟩
        rw [tc]
        go_wp2
        go_ret
        exact ⟨ret_int E.out.symm, rfl⟩
      · have E := Lib.hid (show endB b size align = startB b size align + size from by rw [endB_of hr hc.1 hc.2, if_neg ha])
        have hs1 := hr.1.1
        have hs2 := hr.1.2
        have hsb := startB_in (t := b) (size := size) (align := align)
        clear hr
        go_enter Try.func58, Try.ntmps58
        go_wp2_with fail
        refine (cancut_any _ _ _).mono ?_
        rintro e w' ⟨rfl, rfl⟩
        rw [decide_eq_true HR.out]
        go_wp2_with fail
        refine (canhold_any _ _).mono ?_
        rintro e w' ⟨rfl, rfl⟩
        rw [tc]
        go_wp2_with fail
        refine (start_any _ _ _ _).mono ?_
        rintro e w' ⟨rfl, rfl⟩
        generalize startB b size align = s at *
        go_wp2
        go_ret
        exact ⟨ret_int (by rw [E.out]), rfl⟩
    · have tc : canT b = false := decide_eq_false hc
      have E := Lib.hid (show endB b size align = 0 from by unfold endB; rw [if_pos (.inr (by omega))])
      clear hr hc
      go_enter Try.func58, Try.ntmps58
      go_wp2_with fail
      refine (cancut_any _ _ _).mono ?_
      rintro e w' ⟨rfl, rfl⟩
      rw [decide_eq_true HR.out]
      go_wp2_with fail
      refine (canhold_any _ _).mono ?_
      rintro e w' ⟨rfl, rfl⟩
      rw [tc]
      go_wp2
      go_ret
      exact ⟨ret_int E.out.symm, rfl⟩
  · have E := Lib.hid (show endB b size align = 0 from by unfold endB; rw [if_pos (.inl hr)])
    have HR := Lib.hid hr
    clear hr
    go_enter Try.func58, Try.ntmps58
    go_wp2_with fail
    refine (cancut_any _ _ _).mono ?_
    rintro e w' ⟨rfl, rfl⟩
    rw [decide_eq_false HR.out]
    go_wp2
    go_ret
    exact ⟨ret_int E.out.symm, rfl⟩

end Go.Proofs.Ytlogkhifgkkjeaa
