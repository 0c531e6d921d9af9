/-
  Contracts of package chunk's methods of nil, and of a chunk of zeros.
-/
import Derived.Test.YtjhnajenkoepdaaCKnown
namespace Go.Proofs.Ytjhnajenkoepdaa
open Go.RowKit
set_option linter.unusedVariables false
set_option linter.unusedSimpArgs false

/-- A chunk of zeros lies in block b. -/
def ZeroAt (w : World) (b : Nat) : Prop := w.heap[b]? = some (.cells #[.int .i64 0, .slice none 0 0] 53 (0, 0))
theorem ZeroAt.keep {w w' : World} {b : Nat} (h : ZeroAt w b) (g : w.grownBy w' none) : ZeroAt w' b := by
  unfold ZeroAt at *
  rw [g.block b (heap_lt h) (by simp)]; exact h
def TupP (v : Value) (w : World) (e : Ending) (w' : World) : Prop := e = .returned v ∧ Below w.heap.size w w'

set_option maxHeartbeats 400000 in
theorem get_nil (t : Int) (w : World) : Calls Try.prog 19 #[.pointer none, .int .i64 t] w (TupP (.tuple #[.int .i64 0, .int .i64 11]) w) := by
  go_enter Try.func19, Try.ntmps19
  go_wp2_with fail
  refine (isNone_nil _).mono ?_
  rintro e w' ⟨rfl, rfl⟩
  go_wp2
  go_ret2
  exact ⟨rfl, Below.refl _ _⟩

set_option maxHeartbeats 400000 in
theorem get_zero (b : Nat) (t : Int) (w : World) (h : ZeroAt w b) : Calls Try.prog 19 #[.pointer (some ⟨b, 0, none⟩), .int .i64 t] w (TupP (.tuple #[.int .i64 0, .int .i64 11]) w) := by
  have HZ := Lib.hid h
  clear h
  go_enter Try.func19, Try.ntmps19
  go_wp2_with fail
  refine (isNone_zero b _ _ HZ.out).mono ?_
  rintro e w' ⟨rfl, rfl⟩
  go_wp2
  go_ret2
  exact ⟨rfl, Below.refl _ _⟩

set_option maxHeartbeats 400000 in
theorem split_nil (w : World) : Calls Try.prog 10 #[.pointer none] w (TupP (.tuple #[.pointer none, .int .i64 11]) w) := by
  go_enter Try.func10, Try.ntmps10
  go_wp2_with fail
  refine (isNone_nil _).mono ?_
  rintro e w' ⟨rfl, rfl⟩
  go_wp2
  go_ret2
  exact ⟨rfl, Below.refl _ _⟩

set_option maxHeartbeats 400000 in
theorem split_zero (b : Nat) (w : World) (h : ZeroAt w b) : Calls Try.prog 10 #[.pointer (some ⟨b, 0, none⟩)] w (TupP (.tuple #[.pointer none, .int .i64 11]) w) := by
  have HZ := Lib.hid h
  clear h
  go_enter Try.func10, Try.ntmps10
  go_wp2_with fail
  refine (isNone_zero b _ _ HZ.out).mono ?_
  rintro e w' ⟨rfl, rfl⟩
  go_wp2
  go_ret2
  exact ⟨rfl, Below.refl _ _⟩

set_option maxHeartbeats 400000 in
theorem put_nil (T V p : Int) (w : World) : Calls Try.prog 17 #[.pointer none, .agg #[.int .i64 T, .int .i64 V], .int .i64 p] w (TupP (.int .i64 11) w) := by
  go_enter Try.func17, Try.ntmps17
  go_wp2_with fail
  refine (isNone_nil _).mono ?_
  rintro e w' ⟨rfl, rfl⟩
  go_wp2
  go_ret
  exact ⟨rfl, (Below.refl _ _).alloc (Nat.le_refl _) _⟩

set_option maxHeartbeats 400000 in
theorem put_zero (b : Nat) (T V p : Int) (w : World) (h : ZeroAt w b) : Calls Try.prog 17 #[.pointer (some ⟨b, 0, none⟩), .agg #[.int .i64 T, .int .i64 V], .int .i64 p] w (TupP (.int .i64 11) w) := by
  have HZ := Lib.hid (h.keep (World.grownBy_alloc w (.cells #[.int .i64 T, .int .i64 V] 31) none))
  clear h
  go_enter Try.func17, Try.ntmps17
  go_wp2_with fail
  refine (isNone_zero b _ _ HZ.out).mono ?_
  rintro e w' ⟨rfl, rfl⟩
  go_wp2
  go_ret
  exact ⟨rfl, (Below.refl _ _).alloc (Nat.le_refl _) _⟩

set_option maxHeartbeats 400000 in
theorem copy_zero (b : Nat) (w : World) (h : ZeroAt w b) : Calls Try.prog 13 #[.pointer (some ⟨b, 0, none⟩)] w (TupP (.pointer none) w) := by
  have HZ := Lib.hid h
  clear h
  go_enter Try.func13, Try.ntmps13
  go_wp2_with fail
  refine (isNone_zero b _ _ HZ.out).mono ?_
  rintro e w' ⟨rfl, rfl⟩
  go_wp2
  go_ret
  exact ⟨rfl, Below.refl _ _⟩

set_option maxHeartbeats 400000 in
theorem first_nil (w : World) : Calls Try.prog 24 #[.pointer none] w (TupP (.tuple #[.agg #[.int .i64 0, .int .i64 0], .bool false]) w) := by
  have B1 := (Below.refl w.heap.size w).alloc (Nat.le_refl _) (.cells #[.int .i64 0, .int .i64 0] 31)
  have HN := Lib.hid (heap_new w (.cells #[.int .i64 0, .int .i64 0] 31))
  go_enter Try.func24, Try.ntmps24
  go_wp2_with fail
  generalize w.alloc (.cells #[.int .i64 0, .int .i64 0] 31) = W1 at *
  refine (list_nil _).mono ?_
  rintro e w' ⟨rfl, rfl⟩
  have c0 : W1.cell? ⟨w.heap.size, 0, none⟩ = some (.int .i64 0) := by rw [cell_of HN.out]; rfl
  have c1 : W1.cell? ⟨w.heap.size, 1, none⟩ = some (.int .i64 0) := by rw [cell_of HN.out]; rfl
  have f0 := frozen_of (o := 0) HN.out
  have f1 := frozen_of (o := 1) HN.out
  go_wp2
  have r0 := heap_set (o := 0) (v := .int .i64 0) HN.out
  have r1 := heap_set (o := 1) (v := .int .i64 0) r0
  have j0 := (cell_of (o := 0) r1).trans (by rfl : _ = some (Value.int .i64 0))
  have j1 := (cell_of (o := 1) r1).trans (by rfl : _ = some (Value.int .i64 0))
  clear r0 r1
  exact bodyPost_ret (v := .tuple #[.agg #[.int .i64 0, .int .i64 0], .bool false]) (by simp [results, Try.results24, go_sem, j0, j1]) rfl ⟨rfl, (B1.setCell (Nat.le_refl _) _).setCell (Nat.le_refl _) _⟩

set_option maxHeartbeats 400000 in
theorem last_zero (b : Nat) (w : World) (h : ZeroAt w b) : Calls Try.prog 25 #[.pointer (some ⟨b, 0, none⟩)] w (TupP (.tuple #[.agg #[.int .i64 0, .int .i64 0], .bool false]) w) := by
  have B1 := (Below.refl w.heap.size w).alloc (Nat.le_refl _) (.cells #[.int .i64 0, .int .i64 0] 31)
  have HN := Lib.hid (heap_new w (.cells #[.int .i64 0, .int .i64 0] 31))
  have HZ := Lib.hid (h.keep (World.grownBy_alloc w (.cells #[.int .i64 0, .int .i64 0] 31) none))
  clear h
  go_enter Try.func25, Try.ntmps25
  go_wp2_with fail
  generalize w.alloc (.cells #[.int .i64 0, .int .i64 0] 31) = W1 at *
  refine (list_zero b _ _ HZ.out).mono ?_
  rintro e w' ⟨rfl, rfl⟩
  have c0 : W1.cell? ⟨w.heap.size, 0, none⟩ = some (.int .i64 0) := by rw [cell_of HN.out]; rfl
  have c1 : W1.cell? ⟨w.heap.size, 1, none⟩ = some (.int .i64 0) := by rw [cell_of HN.out]; rfl
  have f0 := frozen_of (o := 0) HN.out
  have f1 := frozen_of (o := 1) HN.out
  go_wp2
  have r0 := heap_set (o := 0) (v := .int .i64 0) HN.out
  have r1 := heap_set (o := 1) (v := .int .i64 0) r0
  have j0 := (cell_of (o := 0) r1).trans (by rfl : _ = some (Value.int .i64 0))
  have j1 := (cell_of (o := 1) r1).trans (by rfl : _ = some (Value.int .i64 0))
  clear r0 r1
  exact bodyPost_ret (v := .tuple #[.agg #[.int .i64 0, .int .i64 0], .bool false]) (by simp [results, Try.results25, go_sem, j0, j1]) rfl ⟨rfl, (B1.setCell (Nat.le_refl _) _).setCell (Nat.le_refl _) _⟩

set_option maxHeartbeats 400000 in
theorem drop_nil (x y : Int) (w : World) : Calls Try.prog 14 #[.pointer none, .int .i64 x, .int .i64 y] w (TupP (.int .i64 0) w) := by
  go_enter Try.func14, Try.ntmps14
  go_wp2_with fail
  refine (list_nil _).mono ?_
  rintro e w' ⟨rfl, rfl⟩
  go_wp2_with fail
  refine (before_any none 0 0 [] x _ (Lst.nil _) rising_nil (by omega)).mono ?_
  rintro e W1 ⟨rfl, b1⟩
  rw [show bef [] x = 0 from rfl]
  go_wp2_with fail
  refine (upTo_any none 0 0 [] y _ (Lst.nil _) rising_nil (by omega)).mono ?_
  rintro e W2 ⟨rfl, b2⟩
  rw [show upt [] y = 0 from rfl]
  have B2 := bel_gbn b1 b1.size (gb_below b2)
  clear b1 b2
  go_wp2
  go_ret
  exact ⟨rfl, B2⟩

set_option maxHeartbeats 400000 in
theorem join_nil (o : Value) (w : World) : Calls Try.prog 26 #[.pointer none, o] w (TupP (.int .i64 11) w) := by
  go_enter Try.func26, Try.ntmps26
  go_wp2_with fail
  refine (isNone_nil _).mono ?_
  rintro e w' ⟨rfl, rfl⟩
  go_wp2
  go_ret
  exact ⟨rfl, Below.refl _ _⟩
set_option maxHeartbeats 400000 in
theorem join_to_nil (b : Nat) (sz : Int) (z : List (Int × Int)) (w : World) (h : PCk w b sz z) (hs : 1 ≤ sz) : Calls Try.prog 26 #[.pointer (some ⟨b, 0, none⟩), .pointer none] w (TupP (.int .i64 1) w) := by
  obtain ⟨a, cap, hc, _⟩ := h
  have HC := Lib.hid hc
  clear hc
  go_enter Try.func26, Try.ntmps26
  go_wp2_with fail
  refine (isNone_no b sz _ _ HC.out hs).mono ?_
  rintro e w' ⟨rfl, rfl⟩
  go_wp2_with fail
  refine (isNone_nil _).mono ?_
  rintro e w' ⟨rfl, rfl⟩
  go_wp2
  go_ret
  exact ⟨rfl, Below.refl _ _⟩
set_option maxHeartbeats 400000 in
theorem join_to_zero (b o : Nat) (sz : Int) (z : List (Int × Int)) (w : World) (h : PCk w b sz z) (hs : 1 ≤ sz) (h0 : ZeroAt w o) : Calls Try.prog 26 #[.pointer (some ⟨b, 0, none⟩), .pointer (some ⟨o, 0, none⟩)] w (TupP (.int .i64 1) w) := by
  obtain ⟨a, cap, hc, _⟩ := h
  have HC := Lib.hid hc
  have HZ := Lib.hid h0
  clear hc h0
  go_enter Try.func26, Try.ntmps26
  go_wp2_with fail
  refine (isNone_no b sz _ _ HC.out hs).mono ?_
  rintro e w' ⟨rfl, rfl⟩
  go_wp2_with fail
  refine (isNone_zero o _ _ HZ.out).mono ?_
  rintro e w' ⟨rfl, rfl⟩
  go_wp2
  go_ret
  exact ⟨rfl, Below.refl _ _⟩
set_option maxHeartbeats 400000 in
theorem join_self (b : Nat) (sz : Int) (z : List (Int × Int)) (w : World) (h : PCk w b sz z) (hs : 1 ≤ sz) : Calls Try.prog 26 #[.pointer (some ⟨b, 0, none⟩), .pointer (some ⟨b, 0, none⟩)] w (TupP (.int .i64 1) w) := by
  obtain ⟨a, cap, hc, _⟩ := h
  have HC := Lib.hid hc
  have heq := ptr_same w b
  clear hc
  go_enter Try.func26, Try.ntmps26
  go_wp2_with fail
  refine (isNone_no b sz _ _ HC.out hs).mono ?_
  rintro e w' ⟨rfl, rfl⟩
  go_wp2_with fail
  refine (isNone_no b sz _ _ HC.out hs).mono ?_
  rintro e w' ⟨rfl, rfl⟩
  go_wp2
  go_ret
  exact ⟨rfl, Below.refl _ _⟩
set_option maxHeartbeats 400000 in
theorem all_nil (w : World) : Calls Try.prog 18 #[.pointer none] w (LaidP [] w) := by
  have HP := Lib.hid (parts_one (Lst.nil w))
  have HB := Lib.hid ((Below.refl w.heap.size w).alloc (Nat.le_refl _) (.cells #[.slice none 0 0] 43))
  have hsz : w.heap.size < (w.alloc (.cells #[.slice none 0 0] 43)).heap.size := by simp
  go_enter Try.func18, Try.ntmps18
  go_wp2_with fail
  refine (list_nil _).mono ?_
  rintro e w' ⟨rfl, rfl⟩
  go_wp2_with fail
  generalize w.alloc (.cells #[.slice none 0 0] 43) = W1 at *
  refine (laid_len w.heap.size [[]] _ _ 1 W1 [] 0 rfl rfl rfl HP.out hsz (by omega) (by omega)).mono ?_
  rintro e W2 ⟨a2, cap2, rfl, hl2, b2⟩
  have B2 := HB.out.trans (b2.mono (Nat.le_of_lt hsz))
  clear b2 HB HP hsz
  go_wp2
  go_ret
  exact ⟨a2, cap2, rfl, hl2, B2⟩
set_option maxHeartbeats 400000 in
theorem len_nil (w : World) : Calls Try.prog 21 #[.pointer none] w (TupP (.int .i64 0) w) := by
  go_enter Try.func21, Try.ntmps21
  go_wp2_with fail
  refine (list_nil _).mono ?_
  rintro e w' ⟨rfl, rfl⟩
  go_wp2
  go_ret
  exact ⟨rfl, Below.refl _ _⟩
set_option maxHeartbeats 400000 in
theorem used_zero (b : Nat) (w : World) (h : ZeroAt w b) : Calls Try.prog 22 #[.pointer (some ⟨b, 0, none⟩)] w (TupP (.int .i64 0) w) := by
  have HZ := Lib.hid h
  clear h
  go_enter Try.func22, Try.ntmps22
  go_wp2_with fail
  refine (list_zero b _ _ HZ.out).mono ?_
  rintro e w' ⟨rfl, rfl⟩
  go_wp2_with fail
  refine (bits_lst none 0 0 [] _ (Lst.nil _) (by omega)).mono ?_
  rintro e w' ⟨rfl, b1⟩
  rw [show bitsZ [] = 0 from rfl]
  go_wp2
  go_ret
  exact ⟨rfl, b1⟩
set_option maxHeartbeats 400000 in
theorem size_nil (w : World) : Calls Try.prog 23 #[.pointer none] w (TupP (.int .i64 0) w) := by
  go_enter Try.func23, Try.ntmps23
  go_wp2
  go_ret
  exact ⟨rfl, Below.refl _ _⟩

end Go.Proofs.Ytjhnajenkoepdaa
