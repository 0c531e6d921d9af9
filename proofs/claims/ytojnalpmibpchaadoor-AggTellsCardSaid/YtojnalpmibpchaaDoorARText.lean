/-
  Contract of the document's Parse of layer 6.
  Condition: a text of at most 2^40 bytes.
-/
import Derived.Test.YtojnalpmibpchaaDoorAText
import Derived.Test.YtojnalpmibpchaaDoorPRUp
namespace Go.Proofs.YtojnalpmibpchaaDoor
open Go.RowKit
set_option linter.unusedVariables false
set_option linter.unusedSimpArgs false

set_option maxRecDepth 100000 in
set_option maxHeartbeats 1000000 in
theorem arparse_any (s : ByteArray) (w : World) (hs : s.size ≤ 1099511627776) :
    Calls Tryd.prog 6 #[.string s] w fun e w' => e = .returned (two (parseK s)) ∧ Below w.heap.size w w' := by
  go_enter Tryd.func6, Tryd.ntmps6
  go_wp2
  go_loopw [4] (fun i wr => ∃ j : Nat, 1 ≤ j ∧ j ≤ 8 ∧ i = .int .i64 (j : Int) ∧ Hid (∀ k : Nat, 1 ≤ k → k < j → upper s ≠ upper (nmA (k : Int))) ∧ Below w.heap.size w wr) (fun i _ => 8 - (intOf i).toNat)
  case atStart => exact ⟨1, Nat.le_refl _, by omega, rfl, Lib.hid (fun k h1 h2 => by omega), Below.refl _ _⟩
  case round =>
    obtain ⟨j, hj1, hj, rfl, HN, B1⟩ := hrel
    have s1 := B1.size
    by_cases hj7 : j ≤ 7
    · have HSZ := Lib.hid (nmA_size (j : Int))
      go_wp2_with fail
      refine (arname_any _ _).mono ?_
      rintro e W2 ⟨rfl, b2⟩
      have B2 := bel_gbn B1 s1 (gb_below b2)
      have s2 := B2.size
      clear b2 B1 s1
      go_wp2_with fail
      refine (rupper_any (nmA (j : Int)) _ (by have := HSZ.out; omega)).mono ?_
      rintro e W3 ⟨rfl, b3⟩
      have B3 := bel_gbn B2 s2 (gb_below b3)
      have s3 := B3.size
      clear b3 B2 s2
      go_wp2_with fail
      refine (rupper_any s _ hs).mono ?_
      rintro e W4 ⟨rfl, b4⟩
      have B4 := bel_gbn B3 s3 (gb_below b4)
      clear b4 B3 s3
      by_cases he : upper s = upper (nmA (j : Int))
      · have E := Lib.hid (parseK_hit s j hj1 hj7 HN.out he)
        have t1 : ((upper (nmA (j : Int))).toList == (upper s).toList) = true := by rw [text_eq]; exact decide_eq_true he.symm
        clear he
        go_wp2
        go_ret2
        exact ⟨by rw [E.out]; rfl, B4⟩
      · have HN2 : Hid (∀ k : Nat, 1 ≤ k → k < j + 1 → upper s ≠ upper (nmA (k : Int))) := Lib.hid (fun k h1 h2 => by
          by_cases e : k = j
          · subst e; exact he
          · exact HN.out k h1 (by omega))
        have t1 : ((upper (nmA (j : Int))).toList == (upper s).toList) = false := by rw [text_eq]; exact decide_eq_false (fun e => he e.symm)
        clear he HN
        go_wp2
        go_roundw
        case rel => exact ⟨j + 1, by omega, by omega, by go_num, HN2, B4⟩
        case measure => simp [intOf]; omega
    · obtain rfl : j = 8 := by omega
      have E := Lib.hid (parseK_miss s HN.out)
      go_wp2
      go_ret2
      exact ⟨by rw [E.out]; rfl, B1⟩

end Go.Proofs.YtojnalpmibpchaaDoor
