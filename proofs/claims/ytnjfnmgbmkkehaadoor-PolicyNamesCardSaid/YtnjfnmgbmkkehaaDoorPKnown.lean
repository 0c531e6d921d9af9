/-
  The fixed calls that each statement of layer 3 ends with come out as they must: 'known' returns true, and writes nothing that was there.
  It asks that the package's table of names lies in memory as the program's text lays it.
-/
import Derived.Test.YtnjfnmgbmkkehaaDoorPText
import Derived.Test.YtnjfnmgbmkkehaaDoorRowB
namespace Go.Proofs.YtnjfnmgbmkkehaaDoor
open Go.RowKit
set_option linter.unusedVariables false

theorem Drew.below {w w' : World} (h : Drew w w') : Below w.heap.size w w' := gb_below_none (h.gb none)
theorem parse_min : parseS ⟨#[109, 105, 110]⟩ = (4, 0) := by
  refine parse_hit _ 4 (by omega) (by omega) ?_ (by decide)
  intro k h1 h2
  have q : k = 1 ∨ k = 2 ∨ k = 3 := by omega
  rcases q with rfl | rfl | rfl <;> decide
theorem parse_mean : parseS ⟨#[109, 101, 97, 110]⟩ = (0, 17) := by
  refine parse_miss _ ?_
  intro k h1 h2
  have q : k = 1 ∨ k = 2 ∨ k = 3 ∨ k = 4 ∨ k = 5 ∨ k = 6 := by omega
  rcases q with rfl | rfl | rfl | rfl | rfl | rfl <;> decide

set_option maxRecDepth 100000 in
set_option maxHeartbeats 1000000 in
theorem pknown_any (w : World) (h : NamesAt w) :
    Calls Tryd.prog 10 #[] w fun e w' => e = .returned (.bool true) ∧ Below w.heap.size w w' := by
  have H := Lib.hid h
  clear h
  go_enter Tryd.func10, Tryd.ntmps10
  go_wp2_with fail
  refine (merge_any _ _ _ _ (by unfold in64; omega) (by unfold in64; omega)).mono ?_
  rintro e w' ⟨rfl, rfl⟩
  rw [show two (mergeS 6 3 4) = .tuple #[.int .i64 7, .int .i64 0] from by first | rfl | decide]
  go_wp2_with fail
  refine (merge_any _ _ _ _ (by unfold in64; omega) (by unfold in64; omega)).mono ?_
  rintro e w' ⟨rfl, rfl⟩
  rw [show two (mergeS 1 3 4) = .tuple #[.int .i64 0, .int .i64 8] from by first | rfl | decide]
  go_wp2_with fail
  refine (merge_any _ _ _ _ (by unfold in64; omega) (by unfold in64; omega)).mono ?_
  rintro e w' ⟨rfl, rfl⟩
  rw [show two (mergeS 7 3 4) = .tuple #[.int .i64 0, .int .i64 1] from by first | rfl | decide]
  go_wp2_with fail
  refine (parse_any _ _ H.out (by decide)).mono ?_
  rintro e W2 ⟨rfl, d2⟩
  have H2 := Lib.hid (H.out.below d2.below)
  have B2 := d2.below
  have s2 := B2.size
  clear d2
  rw [parse_min, show two (4, 0) = .tuple #[.int .i64 4, .int .i64 0] from rfl]
  go_wp2_with fail
  refine (parse_any _ _ H2.out (by decide)).mono ?_
  rintro e W3 ⟨rfl, d3⟩
  have H3 := Lib.hid (H2.out.below d3.below)
  have B3 := bel_gbn B2 s2 (d3.gb none)
  clear d3 B2 s2 H2
  rw [parse_mean, show two (0, 17) = .tuple #[.int .i64 0, .int .i64 17] from rfl]
  go_wp2_with fail
  refine (add_any _ _ _ (by unfold in64; omega) (by unfold in64; omega)).mono ?_
  rintro e w' ⟨rfl, rfl⟩
  rw [show two (addS 9223372036854775807 1) = .tuple #[.int .i64 0, .int .i64 9] from by first | rfl | decide]
  go_wp2_with fail
  refine (cap_any _ _ _ (by unfold in64; omega) (by unfold in64; omega)).mono ?_
  rintro e w' ⟨rfl, rfl⟩
  rw [show capS 9223372036854775807 1 = 9223372036854775807 from by first | rfl | decide]
  go_wp2_with fail
  refine (cap_any _ _ _ (by unfold in64; omega) (by unfold in64; omega)).mono ?_
  rintro e w' ⟨rfl, rfl⟩
  rw [show capS (-9223372036854775808) (-1) = -9223372036854775808 from by first | rfl | decide]
  go_wp2_with fail
  refine (name_any _ _ H3.out).mono ?_
  rintro e w' ⟨rfl, rfl⟩
  rw [show nm 3 = ⟨#[76, 65, 83, 84]⟩ from rfl]
  have t1 : ((⟨#[76, 65, 83, 84]⟩ : ByteArray).toList == (⟨#[76, 65, 83, 84]⟩ : ByteArray).toList) = true := by rw [text_eq]; simp
  go_wp2_with fail
  refine (name_any _ _ H3.out).mono ?_
  rintro e w' ⟨rfl, rfl⟩
  rw [show nm 0 = ⟨#[]⟩ from rfl]
  have t2 : ((⟨#[]⟩ : ByteArray).toList == (⟨#[]⟩ : ByteArray).toList) = true := by rw [text_eq]; simp
  go_wp2_with fail
  refine (pright_any _ _).mono ?_
  rintro e w' ⟨rfl, rfl⟩
  rw [show decide ((1 : Int) ≤ 6 ∧ (6 : Int) ≤ 6) = true from by first | rfl | decide]
  go_wp2_with fail
  refine (pright_any _ _).mono ?_
  rintro e w' ⟨rfl, rfl⟩
  rw [show decide ((1 : Int) ≤ 0 ∧ (0 : Int) ≤ 6) = false from by first | rfl | decide]
  go_wp2
  go_ret
  exact ⟨rfl, B3⟩

end Go.Proofs.YtnjfnmgbmkkehaaDoor
