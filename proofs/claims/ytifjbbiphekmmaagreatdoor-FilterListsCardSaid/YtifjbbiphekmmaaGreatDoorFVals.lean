/-
  Contract of filter.values.
-/
import Derived.Test.YtifjbbiphekmmaaGreatDoorFCut
namespace Go.Proofs.YtifjbbiphekmmaaGreatDoor
open Go.RowKit Go.Lib
set_option linter.unusedVariables false
set_option linter.unusedSimpArgs false

theorem drop1_last {s : Tx} (h : s.head? = some 40) : (s.drop 1).getLast? = some 41 ↔ s.getLast? = some 41 ∧ 2 ≤ s.length := by
  cases s with
  | nil => simp at h
  | cons x l =>
    simp at h
    subst h
    cases l with
    | nil => simp
    | cons y l => simp [List.getLast?_cons_cons]
theorem vals_not {s : Tx} (h0 : s ≠ []) (h : ¬ (s.head? = some 40 ∧ (s.drop 1).getLast? = some 41)) : valsP s = [s] := by
  unfold valsP
  rw [if_neg h0, if_neg]
  rintro ⟨a, b, c⟩
  exact h ⟨a, (drop1_last a).2 ⟨b, c⟩⟩
theorem vals_in {s : Tx} (h0 : s ≠ []) (h1 : s.head? = some 40) (h2 : (s.drop 1).getLast? = some 41) : valsP s = splitN10 (min 17 ((s.drop 1).dropLast.length + 1) - 1) (s.drop 1).dropLast := by
  unfold valsP
  rw [if_neg h0, if_pos ⟨h1, (drop1_last h1).1 h2⟩]
theorem empty_bs (s : Tx) : (bs s).toList.isEmpty = s.isEmpty := by rw [list_bs]

set_option maxHeartbeats 1600000 in
theorem values_any (s : Tx) (w : World) (hs : s.length ≤ 1000000) : Calls Tryz.prog 45 #[.string (bs s)] w (SplP w (valsP s)) := by
  by_cases h0 : s = []
  · subst h0
    have e1 : (bs []).toList.isEmpty = true := by rw [empty_bs]; rfl
    have e2 : ((bs []).toList == ([] : List UInt8)) = true := by rw [list_bs]; rfl
    go_enter Tryz.func45, Tryz.ntmps45
    go_wp2
    go_ret
    exact ⟨none, 0, 0, rfl, TxAt.nil _ _ _, Below.refl _ _, NewA.nil _⟩
  · have e1 : (bs s).toList.isEmpty = false := by rw [empty_bs]; simpa using h0
    have e3 : (bs s).toList ≠ [] := by rw [list_bs]; exact h0
    have e2 : ((bs s).toList == ([] : List UInt8)) = false := beq_eq_false_iff_ne.2 e3
    have HP := Lib.hid (prefx_any s w)
    by_cases h1 : s.head? = some 40
    · rw [decide_eq_true h1, if_pos h1] at HP
      have HS := Lib.hid (sufx_any 41 (s.drop 1) w (by simp; omega))
      by_cases h2 : (s.drop 1).getLast? = some 41
      · rw [decide_eq_true h2, if_pos h2] at HS
        have HV := Lib.hid (vals_in h0 h1 h2)
        have HC := Lib.hid (splitN_any (s.drop 1).dropLast w (by simp; omega))
        rw [← HV.out] at HC
        clear h0 h1 h2 HV e3
        generalize bs (s.drop 1).dropLast = u2 at *
        generalize bs (s.drop 1) = u1 at *
        generalize bs s = u0 at *
        go_enter Tryz.func45, Tryz.ntmps45
        go_wp2_with fail
        refine HP.out.mono ?_
        rintro e w' ⟨rfl, rfl⟩
        go_wp2_with fail
        refine HS.out.mono ?_
        rintro e w' ⟨rfl, rfl⟩
        go_wp2_with fail
        refine HC.out.mono ?_
        rintro e w1 ⟨a, n, c, rfl, t, b, na⟩
        go_wp2
        go_ret
        exact ⟨a, n, c, rfl, t, b, na⟩
      · rw [decide_eq_false h2, if_neg h2] at HS
        have HV := Lib.hid (vals_not h0 (fun h => h2 h.2))
        clear h0 h1 h2 e3
        have HT := Lib.hid (TxAt.one w s)
        generalize bs (s.drop 1) = u1 at *
        generalize bs s = u0 at *
        go_enter Tryz.func45, Tryz.ntmps45
        go_wp2_with fail
        refine HP.out.mono ?_
        rintro e w' ⟨rfl, rfl⟩
        go_wp2_with fail
        refine HS.out.mono ?_
        rintro e w' ⟨rfl, rfl⟩
        go_wp2
        go_ret
        exact ⟨_, _, _, rfl, by rw [HV.out]; exact HT.out, (Below.refl _ _).alloc (Nat.le_refl _) _, NewA.new _ _⟩
    · rw [decide_eq_false h1, if_neg h1] at HP
      have HV := Lib.hid (vals_not h0 (fun h => h1 h.1))
      have HS := Lib.hid (sufx_any 41 s w hs)
      clear h0 h1 e3
      have HT := Lib.hid (TxAt.one w s)
      generalize decide (s.getLast? = some 41) = r at *
      generalize (if s.getLast? = some 41 then s.dropLast else s) = s2 at *
      generalize bs s = u0 at *
      go_enter Tryz.func45, Tryz.ntmps45
      go_wp2_with fail
      refine HP.out.mono ?_
      rintro e w' ⟨rfl, rfl⟩
      go_wp2_with fail
      refine HS.out.mono ?_
      rintro e w' ⟨rfl, rfl⟩
      go_wp2
      go_ret
      exact ⟨_, _, _, rfl, by rw [HV.out]; exact HT.out, (Below.refl _ _).alloc (Nat.le_refl _) _, NewA.new _ _⟩
end Go.Proofs.YtifjbbiphekmmaaGreatDoor
