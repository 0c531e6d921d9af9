/-
  Contracts of what only reads lists of texts: sets.Right, sets.Has; the document's Below, Right, Has, Same; the law's light; cmp.Compare of texts.
-/
import Derived.Test.YtifjbbiphekmmaaGreatDoorEMem
import Derived.Test.YtifjbbiphekmmaaGreatDoorEShelf
import Derived.Lib.SlicesS
namespace Go.Proofs.YtifjbbiphekmmaaGreatDoor
open Go.RowKit
set_option linter.unusedVariables false
set_option linter.unusedSimpArgs false

theorem isNaN_any (s : ByteArray) (w : World) : Calls Tryz.prog 108 #[.string s] w fun e w' => e = .returned (.bool false) ∧ w = w' := by
  have tb : (s.toList != s.toList) = false := by simp
  go_enter Tryz.func108, Tryz.ntmps108
  go_wp2
  go_ret
  exact ⟨by simp, rfl⟩
/-- Which of two texts is the lesser one. -/
def cmpL (x y : Tx) : Int := if x < y then -1 else if y < x then 1 else 0
set_option maxHeartbeats 800000 in
theorem cmp_any (x y : Tx) (w : World) : Calls Tryz.prog 89 #[.string (bs x), .string (bs y)] w fun e w' => e = .returned (.int .i64 (cmpL x y)) ∧ w = w' := by
  have t1 := less_bs x y
  have t2 := less_bs y x
  have t3 := eq_bs x y
  have HE : Hid (cmpL x y = if x < y then -1 else if y < x then 1 else 0) := Lib.hid rfl
  by_cases h1 : x < y
  · have h2 : ¬ y < x := lt_as h1
    have h3 : ¬ x = y := lt_ne h1
    have E := Lib.hid (show cmpL x y = -1 from by rw [HE.out, if_pos h1])
    rw [decide_eq_true h1] at t1
    rw [decide_eq_false h2] at t2
    rw [decide_eq_false h3] at t3
    clear h1 h2 h3
    generalize cmpL x y = r at *
    generalize bs x = s at *
    generalize bs y = u at *
    go_enter Tryz.func89, Tryz.ntmps89
    go_wp2_with fail
    refine (isNaN_any s _).mono ?_
    rintro e w' ⟨rfl, rfl⟩
    go_wp2_with fail
    refine (isNaN_any u _).mono ?_
    rintro e w' ⟨rfl, rfl⟩
    go_wp2
    go_ret
    exact ⟨ret_int E.out.symm, rfl⟩
  · by_cases h2 : y < x
    · have h3 : ¬ x = y := fun e => lt_ne h2 e.symm
      have E := Lib.hid (show cmpL x y = 1 from by rw [HE.out, if_neg h1, if_pos h2])
      rw [decide_eq_false h1] at t1
      rw [decide_eq_true h2] at t2
      rw [decide_eq_false h3] at t3
      clear h1 h2 h3
      generalize cmpL x y = r at *
      generalize bs x = s at *
      generalize bs y = u at *
      go_enter Tryz.func89, Tryz.ntmps89
      go_wp2_with fail
      refine (isNaN_any s _).mono ?_
      rintro e w' ⟨rfl, rfl⟩
      go_wp2_with fail
      refine (isNaN_any u _).mono ?_
      rintro e w' ⟨rfl, rfl⟩
      go_wp2
      go_ret
      exact ⟨ret_int E.out.symm, rfl⟩
    · have h3 : x = y := by
        rcases lt_3 x y with k | k | k
        · exact absurd k h1
        · exact k
        · exact absurd k h2
      have E := Lib.hid (show cmpL x y = 0 from by rw [HE.out, if_neg h1, if_neg h2])
      rw [decide_eq_false h1] at t1
      rw [decide_eq_false h2] at t2
      rw [decide_eq_true h3] at t3
      clear h1 h2 h3
      generalize cmpL x y = r at *
      generalize bs x = s at *
      generalize bs y = u at *
      go_enter Tryz.func89, Tryz.ntmps89
      go_wp2_with fail
      refine (isNaN_any s _).mono ?_
      rintro e w' ⟨rfl, rfl⟩
      go_wp2_with fail
      refine (isNaN_any u _).mono ?_
      rintro e w' ⟨rfl, rfl⟩
      go_wp2
      go_ret
      exact ⟨ret_int E.out.symm, rfl⟩

/-- Sorted as far as place j. -/
theorem ss_snoc {l : List Tx} {j : Nat} (h : SS (l.take (j + 1))) (hj : j + 1 < l.length) (k : l.getD j [] < l.getD (j + 1) []) : SS (l.take (j + 1 + 1)) := by
  rw [List.take_succ_eq_append_getElem hj]
  refine ss_app.2 ⟨h, one_ss _, fun x hx y hy => ?_⟩
  have e : y = l[j + 1] := by simpa using hy
  rw [getD_get (by omega), getD_get hj] at k
  rw [List.take_succ_eq_append_getElem (by omega), ss_app] at h
  rw [List.take_succ_eq_append_getElem (by omega), List.mem_append] at hx
  rw [e]
  rcases hx with hx | hx
  · exact lt_tr (h.2.2 x hx l[j] (by simp)) k
  · have e2 : x = l[j] := by simpa using hx
    rw [e2]; exact k
theorem ss_not {l : List Tx} {j : Nat} (hj : j + 1 < l.length) (k : ¬ l.getD j [] < l.getD (j + 1) []) : ¬ SS l := fun h => by
  rw [getD_get (by omega), getD_get hj] at k
  exact k (List.pairwise_iff_getElem.1 h j (j + 1) (by omega) hj (by omega))
theorem ss_short {l : List Tx} (h : l.length ≤ 1) : SS l := by
  match l, h with
  | [], _ => exact ss_nil
  | [x], _ => exact one_ss x


end Go.Proofs.YtifjbbiphekmmaaGreatDoor
