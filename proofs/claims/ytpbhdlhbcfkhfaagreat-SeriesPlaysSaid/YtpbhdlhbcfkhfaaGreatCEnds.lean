/-
  Contracts of package chunk: First, Last.
  Condition: at most 2^20 samples.
-/
import Derived.Test.YtpbhdlhbcfkhfaaGreatCSmall
namespace Go.Proofs.YtpbhdlhbcfkhfaaGreat
open Go.RowKit
set_option linter.unusedVariables false
set_option linter.unusedSimpArgs false

set_option maxHeartbeats 400000 in
theorem first_ok (b : Nat) (sz : Int) (z : List (Int × Int)) (w : World) (h : PCk w b sz z) (hs : 1 ≤ sz) (hz : z.length ≤ 1048576) :
    Calls Tryz.prog 71 #[.pointer (some ⟨b, 0, none⟩)] w (EndP z (0) w) := by
  obtain ⟨a, cap, hc, hl⟩ := h
  have hc2 : (w.alloc (.cells #[.int .i64 0, .int .i64 0] 33)).heap[b]? = _ := heap_old hc
  have B1 := (Below.refl w.heap.size w).alloc (Nat.le_refl _) (.cells #[.int .i64 0, .int .i64 0] 33)
  have hn := heap_new w (.cells #[.int .i64 0, .int .i64 0] 33)
  have hl2 := hl.keepN (World.grownBy_alloc w (.cells #[.int .i64 0, .int .i64 0] 33) none)
  have HC := Lib.hid hc2
  have HN := Lib.hid hn
  clear hc hc2 hn hl
  by_cases h0 : z.length = 0
  · obtain rfl : z = [] := List.eq_nil_of_length_eq_zero h0
    clear h0 hl2
    go_enter Tryz.func71, Tryz.ntmps71
    go_wp2_with fail
    generalize w.alloc (.cells #[.int .i64 0, .int .i64 0] 33) = W1 at *
    refine (list_ok b sz a _ cap _ HC.out hs).mono ?_
    rintro e w' ⟨rfl, rfl⟩
    have c0 : W1.cell? ⟨w.heap.size, 0, none⟩ = some (.int .i64 0) := by rw [cell_of HN.out]; rfl
    have c1 : W1.cell? ⟨w.heap.size, 1, none⟩ = some (.int .i64 0) := by rw [cell_of HN.out]; rfl
    have f0 := frozen_of (o := 0) HN.out
    have f1 := frozen_of (o := 1) HN.out
    go_wp2
    have r0 := heap_set (o := 0) (v := .int .i64 0) HN.out
    have r1 := heap_set (o := 1) (v := .int .i64 0) r0
    have j0 := (cell_of (o := 0) r1).trans (by rfl : _ = some (Value.int .i64 0))
    have j1 := (cell_of (o := 1) r1).trans (by rfl : _ = some (Value.int .i64 0))
    clear r0 r1
    exact bodyPost_ret (v := .tuple #[.agg #[.int .i64 0, .int .i64 0], .bool false]) (by simp [results, Tryz.results71, go_sem, j0, j1]) rfl ⟨rfl, (B1.setCell (Nat.le_refl _) _).setCell (Nat.le_refl _) _⟩
  · obtain ⟨p, o, rfl, hp, x0, x1⟩ := hl2.1.at_ (0) (by omega)
    have hne : ((z.length : Int) == 0) = false := by rw [beq_eq_false_iff_ne]; omega
    have HD := Lib.hid (show decide (0 < z.length) = true from by simp; omega)
    have hpos : 0 < z.length := by omega
    have HX0 := Lib.hid x0
    have HX1 := Lib.hid x1
    clear x0 x1 h0 hl2
    unfold EndP
    generalize tOf z (0) = T at *
    generalize vOf z (0) = V at *
    generalize hm : z.length = m at *
    clear hm
    go_enter Tryz.func71, Tryz.ntmps71
    go_wp2_with fail
    generalize w.alloc (.cells #[.int .i64 0, .int .i64 0] 33) = W1 at *
    refine (list_ok b sz _ _ cap _ HC.out hs).mono ?_
    rintro e w' ⟨rfl, rfl⟩
    have c0 : W1.cell? ⟨w.heap.size, 0, none⟩ = some (.int .i64 0) := by rw [cell_of HN.out]; rfl
    have c1 : W1.cell? ⟨w.heap.size, 1, none⟩ = some (.int .i64 0) := by rw [cell_of HN.out]; rfl
    have f0 := frozen_of (o := 0) HN.out
    have f1 := frozen_of (o := 1) HN.out
    have x0 := HX0.out
    have x1 := HX1.out
    simp only [Nat.zero_mul, Nat.add_zero] at x0 x1
    go_wp2
    have r0 := heap_set (o := 0) (v := .int .i64 T) HN.out
    have r1 := heap_set (o := 1) (v := .int .i64 V) r0
    have j0 := (cell_of (o := 0) r1).trans (by rfl : _ = some (Value.int .i64 T))
    have j1 := (cell_of (o := 1) r1).trans (by rfl : _ = some (Value.int .i64 V))
    clear r0 r1
    exact bodyPost_ret (v := .tuple #[.agg #[.int .i64 T, .int .i64 V], .bool true]) (by simp [results, Tryz.results71, go_sem, j0, j1]) rfl ⟨by rw [HD.out], (B1.setCell (Nat.le_refl _) _).setCell (Nat.le_refl _) _⟩

set_option maxHeartbeats 400000 in
theorem last_ok (b : Nat) (sz : Int) (z : List (Int × Int)) (w : World) (h : PCk w b sz z) (hs : 1 ≤ sz) (hz : z.length ≤ 1048576) :
    Calls Tryz.prog 63 #[.pointer (some ⟨b, 0, none⟩)] w (EndP z (z.length - 1) w) := by
  obtain ⟨a, cap, hc, hl⟩ := h
  have hc2 : (w.alloc (.cells #[.int .i64 0, .int .i64 0] 33)).heap[b]? = _ := heap_old hc
  have B1 := (Below.refl w.heap.size w).alloc (Nat.le_refl _) (.cells #[.int .i64 0, .int .i64 0] 33)
  have hn := heap_new w (.cells #[.int .i64 0, .int .i64 0] 33)
  have hl2 := hl.keepN (World.grownBy_alloc w (.cells #[.int .i64 0, .int .i64 0] 33) none)
  have HC := Lib.hid hc2
  have HN := Lib.hid hn
  clear hc hc2 hn hl
  by_cases h0 : z.length = 0
  · obtain rfl : z = [] := List.eq_nil_of_length_eq_zero h0
    clear h0 hl2
    go_enter Tryz.func63, Tryz.ntmps63
    go_wp2_with fail
    generalize w.alloc (.cells #[.int .i64 0, .int .i64 0] 33) = W1 at *
    refine (list_ok b sz a _ cap _ HC.out hs).mono ?_
    rintro e w' ⟨rfl, rfl⟩
    have c0 : W1.cell? ⟨w.heap.size, 0, none⟩ = some (.int .i64 0) := by rw [cell_of HN.out]; rfl
    have c1 : W1.cell? ⟨w.heap.size, 1, none⟩ = some (.int .i64 0) := by rw [cell_of HN.out]; rfl
    have f0 := frozen_of (o := 0) HN.out
    have f1 := frozen_of (o := 1) HN.out
    go_wp2
    have r0 := heap_set (o := 0) (v := .int .i64 0) HN.out
    have r1 := heap_set (o := 1) (v := .int .i64 0) r0
    have j0 := (cell_of (o := 0) r1).trans (by rfl : _ = some (Value.int .i64 0))
    have j1 := (cell_of (o := 1) r1).trans (by rfl : _ = some (Value.int .i64 0))
    clear r0 r1
    exact bodyPost_ret (v := .tuple #[.agg #[.int .i64 0, .int .i64 0], .bool false]) (by simp [results, Tryz.results63, go_sem, j0, j1]) rfl ⟨rfl, (B1.setCell (Nat.le_refl _) _).setCell (Nat.le_refl _) _⟩
  · obtain ⟨p, o, rfl, hp, x0, x1⟩ := hl2.1.at_ (z.length - 1) (by omega)
    have hne : ((z.length : Int) == 0) = false := by rw [beq_eq_false_iff_ne]; omega
    have HD := Lib.hid (show decide (0 < z.length) = true from by simp; omega)
    have hpos : 0 < z.length := by omega
    have HX0 := Lib.hid x0
    have HX1 := Lib.hid x1
    clear x0 x1 h0 hl2
    unfold EndP
    generalize tOf z (z.length - 1) = T at *
    generalize vOf z (z.length - 1) = V at *
    generalize hm : z.length = m at *
    clear hm
    go_enter Tryz.func63, Tryz.ntmps63
    go_wp2_with fail
    generalize w.alloc (.cells #[.int .i64 0, .int .i64 0] 33) = W1 at *
    refine (list_ok b sz _ _ cap _ HC.out hs).mono ?_
    rintro e w' ⟨rfl, rfl⟩
    have c0 : W1.cell? ⟨w.heap.size, 0, none⟩ = some (.int .i64 0) := by rw [cell_of HN.out]; rfl
    have c1 : W1.cell? ⟨w.heap.size, 1, none⟩ = some (.int .i64 0) := by rw [cell_of HN.out]; rfl
    have f0 := frozen_of (o := 0) HN.out
    have f1 := frozen_of (o := 1) HN.out
    have x0 := HX0.out
    have x1 := HX1.out
    obtain ⟨q, rfl⟩ : ∃ q, m = q + 1 := ⟨m - 1, by omega⟩
    rw [Nat.add_sub_cancel] at x0 x1
    have hq : ((q + 1 : Nat) : Int) - 1 = (q : Int) := by omega
    have hq0 : (0 : Int) ≤ (q : Int) := by omega
    go_wp2
    have r0 := heap_set (o := 0) (v := .int .i64 T) HN.out
    have r1 := heap_set (o := 1) (v := .int .i64 V) r0
    have j0 := (cell_of (o := 0) r1).trans (by rfl : _ = some (Value.int .i64 T))
    have j1 := (cell_of (o := 1) r1).trans (by rfl : _ = some (Value.int .i64 V))
    clear r0 r1
    exact bodyPost_ret (v := .tuple #[.agg #[.int .i64 T, .int .i64 V], .bool true]) (by simp [results, Tryz.results63, go_sem, j0, j1]) rfl ⟨by rw [HD.out], (B1.setCell (Nat.le_refl _) _).setCell (Nat.le_refl _) _⟩

end Go.Proofs.YtpbhdlhbcfkhfaaGreat
