/-
  spanning's first closure.
-/
import Derived.Test.YtojnalpmibpchaaDoorAClos
import Derived.BigRegion
namespace Go.Proofs.YtojnalpmibpchaaDoor
open Go.RowKit Go.Shelf
set_option linter.unusedVariables false
set_option linter.unusedSimpArgs false

set_option maxRecDepth 100000 in
set_option maxHeartbeats 4000000 in
/-- The first number of a state that spans. -/
theorem span1_first (b : Nat) (k m lo hi v : Int) (w : World) (h : SCel w b k 0 m lo hi) :
    Calls Tryd.prog 46 #[.pointer (some ⟨b, 0, none⟩), .int .i64 v] w (TurnP b k 0 m v v w) := by
  have c1 : w.cell? ⟨b, 1, none⟩ = some (.int .i64 0) := by rw [cell_of h]; rfl
  have c3 : w.cell? ⟨b, 3, none⟩ = some (.int .i64 lo) := by rw [cell_of h]; rfl
  have c4 : w.cell? ⟨b, 4, none⟩ = some (.int .i64 hi) := by rw [cell_of h]; rfl
  have f3 := frozen_of (o := 3) h
  have f4 := frozen_of (o := 4) h
  have hv : v ≤ v := Int.le_refl v
  have H2 := heap_set (o := 4) (v := .int .i64 v) (heap_set (o := 3) (v := .int .i64 v) h)
  have G2 := gb_set (gb_set (gb_refl w (some b)) 3 (.int .i64 v)) 4 (.int .i64 v)
  have H2' := Lib.hid H2
  clear h H2
  go_enter Tryd.func46, Tryd.ntmps46
  go_wp2
  generalize (w.setCell ⟨b, 3, none⟩ (.int .i64 v)).setCell ⟨b, 4, none⟩ (.int .i64 v) = W0 at *
  have h1 := H2'.out
  have g1 := G2
  clear G2 H2' c1 c3 c4 f3 f4
  have c3 : W0.cell? ⟨b, 3, none⟩ = some (.int .i64 v) := by rw [cell_of h1]; rfl
  have c4 : W0.cell? ⟨b, 4, none⟩ = some (.int .i64 v) := by rw [cell_of h1]; rfl
  have f3 := frozen_of (o := 3) h1
  have f4 := frozen_of (o := 4) h1
  go_region
  go_end0
  exact ⟨rfl, heap_set (o := 4) (v := .int .i64 v) (heap_set (o := 3) (v := .int .i64 v) h1), gb_drew (gb_set (gb_set g1 3 (.int .i64 v)) 4 (.int .i64 v))⟩

set_option maxRecDepth 100000 in
set_option maxHeartbeats 4000000 in
/-- A number more. -/
theorem span1_more (b : Nat) (k n m lo hi v : Int) (w : World) (h : SCel w b k n m lo hi) (hn : 0 < n) :
    Calls Tryd.prog 46 #[.pointer (some ⟨b, 0, none⟩), .int .i64 v] w (TurnP b k n m (min lo v) (max hi v) w) := by
  have c1 : w.cell? ⟨b, 1, none⟩ = some (.int .i64 n) := by rw [cell_of h]; rfl
  have G2 := gb_refl w (some b)
  have HS := Lib.hid h
  have H2' := Lib.hid h
  have hn0 : (n == 0) = false := by simp; omega
  obtain ⟨lo', E1⟩ : ∃ x, Hid (min lo v = x) := ⟨_, Lib.hid rfl⟩
  obtain ⟨hi', E2⟩ : ∃ x, Hid (max hi v = x) := ⟨_, Lib.hid rfl⟩
  rw [E1.out, E2.out]
  by_cases h1 : lo ≤ v <;> by_cases h2 : v ≤ hi
  all_goals
    have e1 := E1.out
    have e2 := E2.out
    first | rw [Int.min_eq_left h1] at e1 | rw [Int.min_eq_right (by omega)] at e1
    first | rw [Int.max_eq_left h2] at e2 | rw [Int.max_eq_right (by omega)] at e2
    subst e1 e2
    clear h E1 E2
    go_enter Tryd.func46, Tryd.ntmps46
    go_wp2
    have h1 := H2'.out
    have f3 := frozen_of (o := 3) h1
    have f4 := frozen_of (o := 4) h1
    have c3 : w.cell? ⟨b, 3, none⟩ = some (.int .i64 lo) := by rw [cell_of h1]; rfl
    have c4 : w.cell? ⟨b, 4, none⟩ = some (.int .i64 hi) := by rw [cell_of h1]; rfl
    clear h1 H2' G2 c1
    go_region
    go_end0
    exact ⟨rfl, heap_set (o := 4) (heap_set (o := 3) HS.out), gb_drew (gb_set (gb_set (gb_refl w (some b)) 3 _) 4 _)⟩

end Go.Proofs.YtojnalpmibpchaaDoor
