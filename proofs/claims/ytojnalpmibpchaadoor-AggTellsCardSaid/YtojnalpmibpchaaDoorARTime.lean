/-
  Contracts of what the document says of buckets' times: Right, Start, End. No condition.
-/
import Derived.Test.YtojnalpmibpchaaDoorATime
namespace Go.Proofs.YtojnalpmibpchaaDoor
open Go.RowKit
set_option linter.unusedVariables false
set_option linter.unusedSimpArgs false

set_option maxHeartbeats 400000 in
theorem rrightB_any (size align : Int) (w : World) :
    Calls Tryd.prog 25 #[.int .i64 size, .int .i64 align] w fun e w' => e = .returned (.bool (decide (rightB size align))) ∧ w = w' := by
  by_cases h0 : 1 ≤ size
  · by_cases h3 : size ≤ 1099511627776
    · by_cases h1 : 0 ≤ align
      · by_cases h2 : align < size
        · have E := Lib.hid (show decide (rightB size align) = true from decide_eq_true ⟨⟨by omega, h3⟩, h1, h2⟩)
          go_enter Tryd.func25, Tryd.ntmps25
          go_wp2
          go_ret
          exact ⟨ret_bool E.out.symm, rfl⟩
        · have E := Lib.hid (show decide (rightB size align) = false from decide_eq_false (fun h => h2 h.2.2))
          go_enter Tryd.func25, Tryd.ntmps25
          go_wp2
          go_ret
          exact ⟨ret_bool E.out.symm, rfl⟩
      · have E := Lib.hid (show decide (rightB size align) = false from decide_eq_false (fun h => h1 h.2.1))
        go_enter Tryd.func25, Tryd.ntmps25
        go_wp2
        go_ret
        exact ⟨ret_bool E.out.symm, rfl⟩
    · have E := Lib.hid (show decide (rightB size align) = false from decide_eq_false (fun h => h3 h.1.2))
      go_enter Tryd.func25, Tryd.ntmps25
      go_wp2
      go_ret
      exact ⟨ret_bool E.out.symm, rfl⟩
  · have E := Lib.hid (show decide (rightB size align) = false from decide_eq_false (fun h => h0 h.1.1))
    go_enter Tryd.func25, Tryd.ntmps25
    go_wp2
    go_ret
    exact ⟨ret_bool E.out.symm, rfl⟩

set_option maxHeartbeats 800000 in
theorem rstart_any (t size align : Int) (w : World) :
    Calls Tryd.prog 11 #[.int .i64 t, .int .i64 size, .int .i64 align] w fun e w' => e = .returned (.int .i64 (startB t size align)) ∧ w = w' := by
  by_cases hr : rightB size align
  · have HR := Lib.hid hr
    by_cases ha : t < align
    · have E := Lib.hid (startB_low (size := size) ha)
      clear hr
      go_enter Tryd.func11, Tryd.ntmps11
      go_wp2_with fail
      refine (rrightB_any _ _ _).mono ?_
      rintro e w' ⟨rfl, rfl⟩
      rw [decide_eq_true HR.out]
      go_wp2
      go_ret
      exact ⟨ret_int E.out.symm, rfl⟩
    · by_cases hc : 1099511627776 < t
      · have E := Lib.hid (show startB t size align = 0 from by unfold startB; rw [if_pos (.inr (.inr hc))])
        clear hr
        go_enter Tryd.func11, Tryd.ntmps11
        go_wp2_with fail
        refine (rrightB_any _ _ _).mono ?_
        rintro e w' ⟨rfl, rfl⟩
        rw [decide_eq_true HR.out]
        go_wp2
        go_ret
        exact ⟨ret_int E.out.symm, rfl⟩
      · have hs1 := hr.1.1
        have hs2 := hr.1.2
        have ha0 := hr.2.1
        have h3 := whole_le (t - align) size hs1
        have h5 := div_nonneg' (x := t - align) (by omega) hs1
        have h6 := mul_nonneg' (x := t - align) (by omega) hs1
        have E := Lib.hid (show startB t size align = align + (t - align) / size * size from startB_of hr (by omega) (by omega))
        have hm : (t - align).tdiv size = (t - align) / size := Int.tdiv_eq_ediv_of_nonneg (by omega)
        have hq1 : (t - align) / size ≤ 1099511627776 := by
          have := Int.ediv_le_self size (show 0 ≤ t - align by omega)
          omega
        have hsz : size ≠ 0 := by omega
        clear hr
        generalize (t - align) / size = q at *
        obtain ⟨p, hp⟩ : ∃ p, q * size = p := ⟨_, rfl⟩
        rw [hp] at h3 h6 E
        go_enter Tryd.func11, Tryd.ntmps11
        go_wp2_with fail
        refine (rrightB_any _ _ _).mono ?_
        rintro e w' ⟨rfl, rfl⟩
        rw [decide_eq_true HR.out]
        go_wp2
        go_ret
        exact ⟨ret_int (by rw [E.out]), rfl⟩
  · have E := Lib.hid (show startB t size align = 0 from by unfold startB; rw [if_pos (.inl hr)])
    have HR := Lib.hid hr
    clear hr
    go_enter Tryd.func11, Tryd.ntmps11
    go_wp2_with fail
    refine (rrightB_any _ _ _).mono ?_
    rintro e w' ⟨rfl, rfl⟩
    rw [decide_eq_false HR.out]
    go_wp2
    go_ret
    exact ⟨ret_int E.out.symm, rfl⟩

set_option maxHeartbeats 800000 in
theorem rend_any (b size align : Int) (w : World) :
    Calls Tryd.prog 13 #[.int .i64 b, .int .i64 size, .int .i64 align] w fun e w' => e = .returned (.int .i64 (endB b size align)) ∧ w = w' := by
  by_cases hr : rightB size align
  · have HR := Lib.hid hr
    by_cases h1 : b < 0
    · have E := Lib.hid (show endB b size align = 0 from by unfold endB; rw [if_pos (.inr (by omega))])
      clear hr
      go_enter Tryd.func13, Tryd.ntmps13
      go_wp2_with fail
      refine (rrightB_any _ _ _).mono ?_
      rintro e w' ⟨rfl, rfl⟩
      rw [decide_eq_true HR.out]
      go_wp2
      go_ret
      exact ⟨ret_int E.out.symm, rfl⟩
    · by_cases h2 : 1099511627776 < b
      · have E := Lib.hid (show endB b size align = 0 from by unfold endB; rw [if_pos (.inr (by omega))])
        clear hr
        go_enter Tryd.func13, Tryd.ntmps13
        go_wp2_with fail
        refine (rrightB_any _ _ _).mono ?_
        rintro e w' ⟨rfl, rfl⟩
        rw [decide_eq_true HR.out]
        go_wp2
        go_ret
        exact ⟨ret_int E.out.symm, rfl⟩
      · by_cases ha : b < align
        · have E := Lib.hid (show endB b size align = align from by rw [endB_of hr (by omega) (by omega), if_pos ha])
          clear hr
          go_enter Tryd.func13, Tryd.ntmps13
          go_wp2_with fail
          refine (rrightB_any _ _ _).mono ?_
          rintro e w' ⟨rfl, rfl⟩
          rw [decide_eq_true HR.out]
          go_wp2
          go_ret
          exact ⟨ret_int E.out.symm, rfl⟩
        · have E := Lib.hid (show endB b size align = startB b size align + size from by rw [endB_of hr (by omega) (by omega), if_neg ha])
          have hs1 := hr.1.1
          have hs2 := hr.1.2
          have hsb := startB_in (t := b) (size := size) (align := align)
          clear hr
          go_enter Tryd.func13, Tryd.ntmps13
          go_wp2_with fail
          refine (rrightB_any _ _ _).mono ?_
          rintro e w' ⟨rfl, rfl⟩
          rw [decide_eq_true HR.out]
          go_wp2_with fail
          refine (rstart_any _ _ _ _).mono ?_
          rintro e w' ⟨rfl, rfl⟩
          generalize startB b size align = s at *
          go_wp2
          go_ret
          exact ⟨ret_int (by rw [E.out]), rfl⟩
  · have E := Lib.hid (show endB b size align = 0 from by unfold endB; rw [if_pos (.inl hr)])
    have HR := Lib.hid hr
    clear hr
    go_enter Tryd.func13, Tryd.ntmps13
    go_wp2_with fail
    refine (rrightB_any _ _ _).mono ?_
    rintro e w' ⟨rfl, rfl⟩
    rw [decide_eq_false HR.out]
    go_wp2
    go_ret
    exact ⟨ret_int E.out.symm, rfl⟩

end Go.Proofs.YtojnalpmibpchaaDoor
