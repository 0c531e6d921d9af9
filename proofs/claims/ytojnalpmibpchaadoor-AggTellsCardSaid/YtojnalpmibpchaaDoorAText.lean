/-
  Contracts of agg.Name and agg.Parse.
-/
import Derived.Test.YtojnalpmibpchaaDoorALaid
import Derived.Test.YtojnalpmibpchaaDoorAFoldT
import Derived.Test.YtojnalpmibpchaaDoorPSum
namespace Go.Proofs.YtojnalpmibpchaaDoor
open Go.RowKit
set_option linter.unusedVariables false
set_option linter.unusedSimpArgs false

set_option maxHeartbeats 400000 in
theorem aname_any (p : Int) (w : World) (h : ANamesAt w) :
    Calls Tryd.prog 9 #[.int .i64 p] w fun e w' => e = .returned (.string (nmA p)) ∧ w = w' := by
  have H := Lib.hid h
  clear h
  by_cases hp : kok p
  · obtain ⟨k, rfl⟩ := Int.eq_ofNat_of_zero_le (show 0 ≤ p by have := hp.1; omega)
    have hk1 : 1 ≤ k := by have := hp.1; omega
    have hk2 : k ≤ 7 := by have := hp.2; omega
    have c := H.out.2 k hk2
    have HP := Lib.hid hp
    clear hp
    go_enter Tryd.func9, Tryd.ntmps9
    go_wp2_with fail
    refine (aright_any _ _).mono ?_
    rintro e w' ⟨rfl, rfl⟩
    rw [decide_eq_true HP.out]
    go_wp2
    go_ret
    exact ⟨rfl, rfl⟩
  · have E := Lib.hid (nmA_no hp)
    have HP := Lib.hid hp
    clear hp
    go_enter Tryd.func9, Tryd.ntmps9
    go_wp2_with fail
    refine (aright_any _ _).mono ?_
    rintro e w' ⟨rfl, rfl⟩
    rw [decide_eq_false HP.out]
    go_wp2
    go_ret
    exact ⟨by rw [E.out]; rfl, rfl⟩

/-- A text's kind, and OK; or none, and ErrWord. -/
def parseK (s : ByteArray) : Int × Int :=
  if upper s = upper (nmA 1) then (1, 0) else if upper s = upper (nmA 2) then (2, 0) else if upper s = upper (nmA 3) then (3, 0) else if upper s = upper (nmA 4) then (4, 0) else if upper s = upper (nmA 5) then (5, 0) else if upper s = upper (nmA 6) then (6, 0) else if upper s = upper (nmA 7) then (7, 0) else (0, 17)
theorem parseK_hit (s : ByteArray) (j : Nat) (h1 : 1 ≤ j) (h2 : j ≤ 7) (hn : ∀ k : Nat, 1 ≤ k → k < j → upper s ≠ upper (nmA (k : Int))) (h : upper s = upper (nmA (j : Int))) : parseK s = ((j : Int), 0) := by
  unfold parseK
  have q : j = 1 ∨ j = 2 ∨ j = 3 ∨ j = 4 ∨ j = 5 ∨ j = 6 ∨ j = 7 := by omega
  rcases q with rfl | rfl | rfl | rfl | rfl | rfl | rfl
  · exact if_pos h
  · exact (if_neg (hn 1 (by omega) (by omega))).trans (if_pos h)
  · exact (if_neg (hn 1 (by omega) (by omega))).trans ((if_neg (hn 2 (by omega) (by omega))).trans (if_pos h))
  · exact (if_neg (hn 1 (by omega) (by omega))).trans ((if_neg (hn 2 (by omega) (by omega))).trans ((if_neg (hn 3 (by omega) (by omega))).trans (if_pos h)))
  · exact (if_neg (hn 1 (by omega) (by omega))).trans ((if_neg (hn 2 (by omega) (by omega))).trans ((if_neg (hn 3 (by omega) (by omega))).trans ((if_neg (hn 4 (by omega) (by omega))).trans (if_pos h))))
  · exact (if_neg (hn 1 (by omega) (by omega))).trans ((if_neg (hn 2 (by omega) (by omega))).trans ((if_neg (hn 3 (by omega) (by omega))).trans ((if_neg (hn 4 (by omega) (by omega))).trans ((if_neg (hn 5 (by omega) (by omega))).trans (if_pos h)))))
  · exact (if_neg (hn 1 (by omega) (by omega))).trans ((if_neg (hn 2 (by omega) (by omega))).trans ((if_neg (hn 3 (by omega) (by omega))).trans ((if_neg (hn 4 (by omega) (by omega))).trans ((if_neg (hn 5 (by omega) (by omega))).trans ((if_neg (hn 6 (by omega) (by omega))).trans (if_pos h))))))
theorem parseK_miss (s : ByteArray) (hn : ∀ k : Nat, 1 ≤ k → k < 8 → upper s ≠ upper (nmA (k : Int))) : parseK s = (0, 17) := by
  unfold parseK
  exact (if_neg (hn 1 (by omega) (by omega))).trans ((if_neg (hn 2 (by omega) (by omega))).trans ((if_neg (hn 3 (by omega) (by omega))).trans ((if_neg (hn 4 (by omega) (by omega))).trans ((if_neg (hn 5 (by omega) (by omega))).trans ((if_neg (hn 6 (by omega) (by omega))).trans (if_neg (hn 7 (by omega) (by omega))))))))
theorem other_size {s t : ByteArray} (h : s.size ≠ t.size) : upper s ≠ upper t := fun e => h (by rw [← upper_size s, e, upper_size])

/-- Of a text EqualFold tells of each name whether it is the same, but for cases. -/
def Folds (s : ByteArray) (w : World) : Prop := ∀ (k : Nat) (W : World), 1 ≤ k → k ≤ 7 → s.size = (nmA (k : Int)).size → Below w.heap.size w W → Calls Tryd.prog 21 #[.string s, .string (nmA (k : Int))] W fun e w' => e = .returned (.bool (decide (upper s = upper (nmA (k : Int))))) ∧ Below W.heap.size W w'

theorem index_names (j : Nat) (hj : j ≤ 7) : ∀ W : World, (Instr.index 44 (.agg #[.string (nmA 0), .string (nmA 1), .string (nmA 2), .string (nmA 3), .string (nmA 4), .string (nmA 5), .string (nmA 6), .string (nmA 7)]) (.int .i64 (j : Int))).run Tryd.prog W = .ok (.string (nmA (j : Int))) W := by
  intro W
  have q : j = 0 ∨ j = 1 ∨ j = 2 ∨ j = 3 ∨ j = 4 ∨ j = 5 ∨ j = 6 ∨ j = 7 := by omega
  rcases q with rfl | rfl | rfl | rfl | rfl | rfl | rfl | rfl <;> rfl
theorem nmA_size (k : Int) : (nmA k).size ≤ 5 := by
  unfold nmA
  (repeat' split) <;> decide
set_option maxRecDepth 100000 in
set_option maxHeartbeats 1000000 in
theorem aparse_any (s : ByteArray) (w : World) (h : ANamesAt w) (hs : s.size ≤ 140737488355328) (hf : Folds s w) :
    Calls Tryd.prog 5 #[.string s] w fun e w' => e = .returned (two (parseK s)) ∧ Below w.heap.size w w' := by
  have H := Lib.hid h
  have HF := Lib.hid hf
  have c0 := h.2 0 (by omega)
  have c1 := h.2 1 (by omega)
  have c2 := h.2 2 (by omega)
  have c3 := h.2 3 (by omega)
  have c4 := h.2 4 (by omega)
  have c5 := h.2 5 (by omega)
  have c6 := h.2 6 (by omega)
  have c7 := h.2 7 (by omega)
  clear h hf
  go_enter Tryd.func5, Tryd.ntmps5
  go_wp2
  go_loopw [7] (fun i wr => ∃ j : Nat, j ≤ 8 ∧ i = .int .i64 (j : Int) ∧ Hid (∀ k : Nat, 1 ≤ k → k < j → upper s ≠ upper (nmA (k : Int))) ∧ Below w.heap.size w wr) (fun i _ => 8 - (intOf i).toNat)
  case atStart => exact ⟨0, by omega, rfl, Lib.hid (fun k h1 h2 => by omega), Below.refl _ _⟩
  case round =>
    clear c0 c1 c2 c3 c4 c5 c6 c7
    obtain ⟨j, hj, rfl, HN, B⟩ := hrel
    by_cases hj7 : j ≤ 7
    · have hix : ∀ W : World, (Instr.index 44 (.agg #[.string (nmA 0), .string (nmA 1), .string (nmA 2), .string (nmA 3), .string (nmA 4), .string (nmA 5), .string (nmA 6), .string (nmA 7)]) (.int .i64 (j : Int))).run Tryd.prog W = .ok (.string (nmA (j : Int))) W := index_names j hj7
      by_cases hj0 : j = 0
      · have HK := Lib.hid (show ¬ kok (j : Int) from fun h => by have := h.1; omega)
        have HJ := Lib.hid hj0
        clear hj0
        go_wp2_with fail
        clear hix
        refine (aright_any _ _).mono ?_
        rintro e w' ⟨rfl, rfl⟩
        rw [decide_eq_false HK.out]
        go_wp2
        go_roundw
        case rel => exact ⟨j + 1, by omega, by go_num, Lib.hid (fun k h1 h2 => by have := HJ.out; omega), B⟩
        case measure => simp [intOf]; omega
      · have hj1 : 1 ≤ j := by omega
        have HK := Lib.hid (show kok (j : Int) from ⟨by omega, by omega⟩)
        have hn5 := nmA_size (j : Int)
        by_cases hz : s.size = (nmA (j : Int)).size
        · have key := HF.out j wr hj1 hj7 hz B
          have tz : ((s.size : Int) == ((nmA (j : Int)).size : Int)) = true := by rw [beq_iff_eq]; omega
          have HIT := Lib.hid (parseK_hit s j hj1 hj7 HN.out)
          have HNX := Lib.hid (show upper s ≠ upper (nmA (j : Int)) → ∀ k : Nat, 1 ≤ k → k < j + 1 → upper s ≠ upper (nmA (k : Int)) from fun hne k h1 h2 => by
            by_cases e : k = j
            · subst e; exact hne
            · exact HN.out k h1 (by omega))
          generalize nmA (j : Int) = n at *
          clear hj0 hz
          go_wp2_with fail
          clear hix
          refine (aright_any _ _).mono ?_
          rintro e w' ⟨rfl, rfl⟩
          rw [decide_eq_true HK.out]
          go_wp2_with fail
          refine key.mono ?_
          rintro e W2 ⟨rfl, b2⟩
          have B2 := bel_gbn B B.size (gb_below b2)
          clear key b2 B tz
          by_cases he : upper s = upper n
          · have E := Lib.hid (HIT.out he)
            rw [decide_eq_true he]
            clear he
            go_wp2
            go_ret2
            exact ⟨by rw [E.out]; rfl, B2⟩
          · have E := Lib.hid (HNX.out he)
            rw [decide_eq_false he]
            clear he
            go_wp2
            go_roundw
            case rel => exact ⟨j + 1, by omega, by go_num, E, B2⟩
            case measure => simp [intOf]; omega
        · have tz : ((s.size : Int) == ((nmA (j : Int)).size : Int)) = false := by rw [beq_eq_false_iff_ne]; omega
          have HNX := Lib.hid (show ∀ k : Nat, 1 ≤ k → k < j + 1 → upper s ≠ upper (nmA (k : Int)) from fun k h1 h2 => by
            by_cases e : k = j
            · subst e; exact other_size hz
            · exact HN.out k h1 (by omega))
          generalize nmA (j : Int) = n at *
          clear hj0 hz
          go_wp2_with fail
          clear hix
          refine (aright_any _ _).mono ?_
          rintro e w' ⟨rfl, rfl⟩
          rw [decide_eq_true HK.out]
          go_wp2
          go_roundw
          case rel => exact ⟨j + 1, by omega, by go_num, HNX, B⟩
          case measure => simp [intOf]; omega
    · obtain rfl : j = 8 := by omega
      have E := Lib.hid (parseK_miss s HN.out)
      go_wp2
      go_ret2
      exact ⟨by rw [E.out]; rfl, B⟩

end Go.Proofs.YtojnalpmibpchaaDoor
