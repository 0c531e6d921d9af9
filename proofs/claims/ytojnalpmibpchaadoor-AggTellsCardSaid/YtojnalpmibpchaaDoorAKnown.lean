/-
  Contract of law06's known.
-/
import Derived.Test.YtojnalpmibpchaaDoorAText
import Derived.Test.YtojnalpmibpchaaDoorABuckP
import Derived.Test.YtojnalpmibpchaaDoorRSame
import Derived.Test.YtojnalpmibpchaaDoorASampL
namespace Go.Proofs.YtojnalpmibpchaaDoor
open Go.RowKit
set_option linter.unusedVariables false
set_option linter.unusedSimpArgs false

instance (s : ByteArray) : Decidable (Asc s) := inferInstanceAs (Decidable (∀ (j : Nat) (h : j < s.size), _))
theorem folds_asc (s : ByteArray) (w : World) (hs : s.size ≤ 100) (ha : Asc s) : Folds s w := by
  intro k W h1 h2 hz _
  have hk : Asc (nmA (k : Int)) := by
    have q : k = 1 ∨ k = 2 ∨ k = 3 ∨ k = 4 ∨ k = 5 ∨ k = 6 ∨ k = 7 := by omega
    rcases q with rfl | rfl | rfl | rfl | rfl | rfl | rfl <;> decide
  refine (fold_ascii s _ W (by omega) hz ha hk).mono ?_
  rintro e w' ⟨rfl, rfl⟩
  exact ⟨rfl, Below.refl _ _⟩

instance (n : Int) : Decidable (in64 n) := inferInstanceAs (Decidable (_ ∧ _))
instance (z : List (Int × Int)) : Decidable (All64 z) := inferInstanceAs (Decidable (∀ x ∈ z, in64 x.1 ∧ in64 x.2))
def K1 : List (Int × Int) := [(1, 9223372036854775807), (2, 5)]
def K2 : List (Int × Int) := [(1, 1), (3, 2), (12, 3), (13, 4)]
def K3 : List (Int × Int) := [(0, 1), (3, 5), (13, 4)]
theorem k1_fold : valK 1 (valsOf K1) = 9223372036854775807 ∧ isK 1 (valsOf K1) = true := by decide
theorem k2_buck : buckA 1 10 3 K2 = K3 := by decide
theorem k2_parse : parseK ⟨#[67, 79, 85, 78, 84]⟩ = (4, 0) ∧ parseK ⟨#[109, 101, 97, 110]⟩ = (0, 17) := by decide

set_option maxRecDepth 100000 in
set_option maxHeartbeats 4000000 in
theorem aknown_any (w : World) (h : ANamesAt w) :
    Calls Tryd.prog 4 #[] w fun e w' => e = .returned (.bool true) ∧ Below w.heap.size w w' := by
  have H := Lib.hid h
  clear h
  go_enter Tryd.func4, Tryd.ntmps4
  go_wp2_with fail
  refine (anew_ok 7 _ ⟨by omega, by omega⟩).mono ?_
  rintro e W1 ⟨c, rfl, hc, S1, B1⟩
  have HC := Lib.hid hc
  clear hc
  go_wp2_with fail
  refine (anew_no 8 _ (by unfold kok; omega)).mono ?_
  rintro e w' ⟨rfl, rfl⟩
  go_wp2_with fail
  refine (value_st c 7 [] _ ⟨by omega, by omega⟩ S1 (by simp)).mono ?_
  rintro e W2 ⟨rfl, b2⟩
  have S2 := S1.keepB b2
  have B2 := bel_gbn B1 B1.size (gb_below b2)
  clear S1 B1 b2
  have hv : tell (valK 7 []) (decide ([] ≠ ([] : List Int))) = tell 0 false := by rw [valK_nil]; rfl
  rw [hv]
  unfold tell
  go_wp2_with fail
  refine (add_st c 7 [] 3 _ ⟨by omega, by omega⟩ S2 (by unfold in64; omega) (by simp)).mono ?_
  rintro e W3 ⟨rfl, S3, g3⟩
  have B3 := bel_gb B2 B2.size HC.out g3
  clear S2 B2 g3 hv
  go_wp2_with fail
  refine (add_st c 7 _ (-4) _ ⟨by omega, by omega⟩ S3 (by unfold in64; omega) (by simp)).mono ?_
  rintro e W4 ⟨rfl, S4, g4⟩
  have B4 := bel_gb B3 B3.size HC.out g4
  clear S3 B3 g4
  go_wp2_with fail
  refine (value_st c 7 _ _ ⟨by omega, by omega⟩ S4 (by simp)).mono ?_
  rintro e W5 ⟨rfl, b5⟩
  have S5 := S4.keepB b5
  have B5 := bel_gbn B4 B4.size (gb_below b5)
  clear S4 B4 b5
  have hv : tell (valK 7 ([] ++ [3] ++ [-4])) (decide ([] ++ [3] ++ [-4] ≠ ([] : List Int))) = tell 7 true := by rw [show valK 7 ([] ++ [3] ++ [-4]) = 7 from by decide, show decide ([] ++ [3] ++ [-4] ≠ ([] : List Int)) = true from by decide]
  rw [hv]
  unfold tell
  go_wp2_with fail
  have L5 : SampAt (W5.alloc (.cells #[.int .i64 1, .int .i64 9223372036854775807, .int .i64 2, .int .i64 5] 39)) (some ⟨W5.heap.size, 0, none⟩) 2 2 K1 := samp_lit (z := K1) (heap_new W5 _) rfl (by decide) (by decide)
  have S6 := S5.keepN (World.grownBy_alloc W5 (.cells #[.int .i64 1, .int .i64 9223372036854775807, .int .i64 2, .int .i64 5] 39) none)
  have B6 := B5.alloc B5.size (.cells #[.int .i64 1, .int .i64 9223372036854775807, .int .i64 2, .int .i64 5] 39)
  clear S5 B5 hv
  generalize W5.heap.size = x5 at *
  generalize W5.alloc (.cells #[.int .i64 1, .int .i64 9223372036854775807, .int .i64 2, .int .i64 5] 39) = W6 at *
  refine (fold_any 1 _ 2 2 K1 W6 L5 (by omega)).mono ?_
  rintro e W7 ⟨rfl, b7⟩
  have S7 := S6.keepB b7
  have B7 := bel_gbn B6 B6.size (gb_below b7)
  clear S6 B6 b7 L5
  rw [k1_fold.1, k1_fold.2]
  unfold tell
  go_wp2_with fail
  refine (aparse_any ⟨#[67, 79, 85, 78, 84]⟩ _ (H.out.below B7) (by decide) (folds_asc _ _ (by decide) (by decide))).mono ?_
  rintro e W8 ⟨rfl, b8⟩
  have S8 := S7.keepB b8
  have B8 := bel_gbn B7 B7.size (gb_below b8)
  clear S7 B7 b8
  rw [k2_parse.1]
  unfold two
  go_wp2_with fail
  refine (aparse_any ⟨#[109, 101, 97, 110]⟩ _ (H.out.below B8) (by decide) (folds_asc _ _ (by decide) (by decide))).mono ?_
  rintro e W9 ⟨rfl, b9⟩
  have S9 := S8.keepB b9
  have B9 := bel_gbn B8 B8.size (gb_below b9)
  clear S8 B8 b9
  rw [k2_parse.2]
  unfold two
  go_wp2_with fail
  have LA : SampAt (W9.alloc (.cells #[.int .i64 1, .int .i64 1, .int .i64 3, .int .i64 2, .int .i64 12, .int .i64 3, .int .i64 13, .int .i64 4] 39)) (some ⟨W9.heap.size, 0, none⟩) 4 4 K2 := samp_lit (z := K2) (heap_new W9 _) rfl (by decide) (by decide)
  have SA := S9.keepN (World.grownBy_alloc W9 (.cells #[.int .i64 1, .int .i64 1, .int .i64 3, .int .i64 2, .int .i64 12, .int .i64 3, .int .i64 13, .int .i64 4] 39) none)
  have BA := B9.alloc B9.size (.cells #[.int .i64 1, .int .i64 1, .int .i64 3, .int .i64 2, .int .i64 12, .int .i64 3, .int .i64 13, .int .i64 4] 39)
  clear S9 B9
  generalize W9.heap.size = x9 at *
  generalize W9.alloc (.cells #[.int .i64 1, .int .i64 1, .int .i64 3, .int .i64 2, .int .i64 12, .int .i64 3, .int .i64 13, .int .i64 4] 39) = WA at *
  refine (buckets_any 1 10 3 _ 4 4 K2 WA LA (by omega)).mono ?_
  rintro e WB ⟨v, rfl, ho, bb⟩
  rw [k2_buck] at ho
  obtain ⟨ad, cp, rfl, LB⟩ := row_samp (z := K3) (by decide) (by decide) ho
  have SB := SA.keepB bb
  have BB := bel_gbn BA BA.size (gb_below bb)
  clear SA BA bb LA ho
  go_wp2_with fail
  refine (len_st c 7 _ WB ⟨by omega, by omega⟩ SB).mono ?_
  rintro e w' ⟨rfl, rfl⟩
  have hlen : (([] ++ [3] ++ [-4] : List Int).length : Int) = 2 := rfl
  rw [hlen]
  clear hlen SB
  go_wp2_with fail
  have LC : SampAt (WB.alloc (.cells #[.int .i64 0, .int .i64 1, .int .i64 3, .int .i64 5, .int .i64 13, .int .i64 4] 39)) (some ⟨WB.heap.size, 0, none⟩) 3 3 K3 := samp_lit (z := K3) (heap_new WB _) rfl (by decide) (by decide)
  have LB2 := LB.keep ((Below.refl WB.heap.size WB).alloc (Nat.le_refl _) (.cells #[.int .i64 0, .int .i64 1, .int .i64 3, .int .i64 5, .int .i64 13, .int .i64 4] 39))
  have BC := BB.alloc BB.size (.cells #[.int .i64 0, .int .i64 1, .int .i64 3, .int .i64 5, .int .i64 13, .int .i64 4] 39)
  clear BB LB
  generalize WB.heap.size = xb at *
  generalize WB.alloc (.cells #[.int .i64 0, .int .i64 1, .int .i64 3, .int .i64 5, .int .i64 13, .int .i64 4] 39) = WC at *
  refine (same_any _ _ _ _ _ _ K3 K3 WC LB2 LC).mono ?_
  rintro e WD ⟨rfl, dd⟩
  have BD := BC.trans (dd.below.mono BC.size)
  have HD := Lib.hid (H.out.below BD)
  rw [decide_eq_true (rfl : K3 = K3)]
  clear LB2 LC BC dd
  have E1 : startB 25 10 3 = 23 := by decide
  have E2 : startB 2 10 3 = 0 := by decide
  have E3 : endB 0 10 3 = 3 := by decide
  have E4 : endB 23 10 3 = 33 := by decide
  go_wp2_with fail
  refine (start_any 25 10 3 _).mono ?_
  rintro e w' ⟨rfl, rfl⟩
  rw [E1]
  go_wp2_with fail
  refine (start_any 2 10 3 _).mono ?_
  rintro e w' ⟨rfl, rfl⟩
  rw [E2]
  go_wp2_with fail
  refine (end_any 0 10 3 _).mono ?_
  rintro e w' ⟨rfl, rfl⟩
  rw [E3]
  go_wp2_with fail
  refine (end_any 23 10 3 _).mono ?_
  rintro e w' ⟨rfl, rfl⟩
  rw [E4]
  clear E1 E2 E3 E4
  go_wp2_with fail
  refine (aname_any 5 _ HD.out).mono ?_
  rintro e w' ⟨rfl, rfl⟩
  have e5 : nmA 5 = ⟨#[102, 105, 114, 115, 116]⟩ := by decide
  rw [e5]
  clear e5
  have t5 : ((⟨#[102, 105, 114, 115, 116]⟩ : ByteArray).toList == (⟨#[102, 105, 114, 115, 116]⟩ : ByteArray).toList) = true := by simp
  go_wp2_with fail
  refine (aright_any 7 _).mono ?_
  rintro e w' ⟨rfl, rfl⟩
  rw [show decide (kok 7) = true from by decide]
  go_wp2_with fail
  refine (aright_any 0 _).mono ?_
  rintro e w' ⟨rfl, rfl⟩
  rw [show decide (kok 0) = false from by decide]
  go_wp2
  go_ret
  exact ⟨rfl, BD⟩

end Go.Proofs.YtojnalpmibpchaaDoor
