/-
  What each kind's closures do: joining, spanning, counting, and their bodies.
-/
import Derived.Test.YtojnalpmibpchaaDoorPCapW
import Derived.Test.YtojnalpmibpchaaDoorAFold
import Derived.Shelf.Abstract
import Derived.BigRegion
import Derived.StillTailTactics
import Derived.IntWalk
import Derived.Laws.Rows
import Derived.Laws.EntriesVeiled
namespace Go.Proofs.YtojnalpmibpchaaDoor
open Go.RowKit Go.Shelf
set_option linter.unusedVariables false
set_option linter.unusedSimpArgs false

/-- A state's five cells, in block b. -/
def SCel (w : World) (b : Nat) (k n m lo hi : Int) : Prop := w.heap[b]? = some (.cells #[.int .i64 k, .int .i64 n, .int .i64 m, .int .i64 lo, .int .i64 hi] 50 (0, 0))
/-- A function value without captures. -/
def fv (f : FuncId) : Value := .func (.func f) #[] #[]

/-! The five functions that make one number of two. -/
set_option maxHeartbeats 400000 in
theorem jmin_any (a b : Int) (w : World) : Calls Tryd.prog 34 #[.int .i64 a, .int .i64 b] w fun e w' => e = .returned (.int .i64 (min a b)) ∧ w = w' := by
  by_cases h : a ≤ b
  · have E := Lib.hid (Int.min_eq_left h)
    go_enter Tryd.func34, Tryd.ntmps34
    go_wp2
    go_ret
    exact ⟨ret_int E.out.symm, rfl⟩
  · have E := Lib.hid (Int.min_eq_right (show b ≤ a by omega))
    go_enter Tryd.func34, Tryd.ntmps34
    go_wp2
    go_ret
    exact ⟨ret_int E.out.symm, rfl⟩
set_option maxHeartbeats 400000 in
theorem jmax_any (a b : Int) (w : World) : Calls Tryd.prog 35 #[.int .i64 a, .int .i64 b] w fun e w' => e = .returned (.int .i64 (max a b)) ∧ w = w' := by
  by_cases h : b ≤ a
  · have E := Lib.hid (Int.max_eq_left h)
    go_enter Tryd.func35, Tryd.ntmps35
    go_wp2
    go_ret
    exact ⟨ret_int E.out.symm, rfl⟩
  · have E := Lib.hid (Int.max_eq_right (show a ≤ b by omega))
    go_enter Tryd.func35, Tryd.ntmps35
    go_wp2
    go_ret
    exact ⟨ret_int E.out.symm, rfl⟩
set_option maxHeartbeats 400000 in
theorem jfst_any (a b : Int) (w : World) : Calls Tryd.prog 36 #[.int .i64 a, .int .i64 b] w fun e w' => e = .returned (.int .i64 a) ∧ w = w' := by
  go_enter Tryd.func36, Tryd.ntmps36
  go_wp2
  go_ret
  exact ⟨rfl, rfl⟩
set_option maxHeartbeats 400000 in
theorem jlst_any (a b : Int) (w : World) : Calls Tryd.prog 37 #[.int .i64 a, .int .i64 b] w fun e w' => e = .returned (.int .i64 b) ∧ w = w' := by
  go_enter Tryd.func37, Tryd.ntmps37
  go_wp2
  go_ret
  exact ⟨rfl, rfl⟩

/-! joining: its two closures; the first one has the function in a block of its own. -/
def JoinP (jf : Value) (w : World) (e : Ending) (w' : World) : Prop :=
  e = .returned (.agg #[.func (.func 43) #[] #[.pointer (some ⟨w.heap.size, 0, none⟩)], fv 44]) ∧ w'.cell? ⟨w.heap.size, 0, none⟩ = some jf ∧ w.heap.size < w'.heap.size ∧ Below w.heap.size w w'
theorem alloc2 (w : World) (x y : Obj) : ∀ W, (w.alloc x).alloc y = W → W.heap[w.heap.size]? = some x ∧ W.heap[w.heap.size + 1]? = some y ∧ Below w.heap.size w W ∧ w.heap.size + 2 = W.heap.size := by
  intro W h
  subst h
  have e : (w.alloc x).heap.size = w.heap.size + 1 := by simp
  refine ⟨heap_old (heap_new w x), ?_, ((Below.refl w.heap.size w).alloc (Nat.le_refl _) _).alloc (by simp) _, by simp⟩
  have := heap_new (w.alloc x) y
  rwa [e] at this
set_option maxHeartbeats 400000 in
theorem joining_any (g : FuncId) (w : World) : Calls Tryd.prog 32 #[fv g] w (JoinP (fv g) w) := by
  unfold fv
  go_enter Tryd.func32, Tryd.ntmps32
  go_wp2
  obtain ⟨W, hW⟩ : ∃ W, (w.alloc (.cells #[.func (.func g) #[] #[]] 63)).alloc (.cells #[.func (.func 43) #[] #[.pointer (some ⟨w.heap.size, 0, none⟩)], .func (.func 44) #[] #[]] 54) = W := ⟨_, rfl⟩
  obtain ⟨h0, h1, B, hs⟩ := alloc2 _ _ _ _ hW
  rw [hW]
  refine bodyPost_ret (results_cell_row rfl _ _ _ _ _ _ _ rfl h1 Tryd.underlying54 rfl rfl) rfl ?_
  exact ⟨rfl, by rw [cell_of h0]; rfl, heap_lt h0, B⟩
theorem alloc1 (w : World) (y : Obj) : ∀ W, w.alloc y = W → W.heap[w.heap.size]? = some y ∧ Below w.heap.size w W ∧ w.heap.size + 1 = W.heap.size := by
  intro W h
  subst h
  exact ⟨heap_new w y, (Below.refl w.heap.size w).alloc (Nat.le_refl _) _, by simp⟩
/-- Two functions without captures. -/
def PairP (f g : FuncId) (w : World) (e : Ending) (w' : World) : Prop := e = .returned (.agg #[fv f, fv g]) ∧ Below w.heap.size w w'
set_option maxHeartbeats 400000 in
theorem spanning_any (w : World) : Calls Tryd.prog 38 #[] w (PairP 46 47 w) := by
  go_enter Tryd.func38, Tryd.ntmps38
  go_wp2
  obtain ⟨W, hW⟩ : ∃ W, w.alloc (.cells #[.func (.func 46) #[] #[], .func (.func 47) #[] #[]] 54) = W := ⟨_, rfl⟩
  obtain ⟨h1, B, hs⟩ := alloc1 _ _ _ hW
  rw [hW]
  refine bodyPost_ret (results_cell_row rfl _ _ _ _ _ _ _ rfl h1 Tryd.underlying54 rfl rfl) rfl ?_
  exact ⟨rfl, B⟩
set_option maxHeartbeats 400000 in
theorem counting_any (w : World) : Calls Tryd.prog 39 #[] w (PairP 48 49 w) := by
  go_enter Tryd.func39, Tryd.ntmps39
  go_wp2
  obtain ⟨W, hW⟩ : ∃ W, w.alloc (.cells #[.func (.func 48) #[] #[], .func (.func 49) #[] #[]] 54) = W := ⟨_, rfl⟩
  obtain ⟨h1, B, hs⟩ := alloc1 _ _ _ hW
  rw [hW]
  refine bodyPost_ret (results_cell_row rfl _ _ _ _ _ _ _ rfl h1 Tryd.underlying54 rfl rfl) rfl ?_
  exact ⟨rfl, B⟩

/-! What the closures do. -/
/-- The state is turned, and nothing else. -/
def TurnP (b : Nat) (k n m lo hi : Int) (w : World) (e : Ending) (w' : World) : Prop := e = .returned (.tuple #[]) ∧ SCel w' b k n m lo hi ∧ w.grownBy w' (some b)
theorem SCel.lt {w : World} {b : Nat} {k n m lo hi : Int} (h : SCel w b k n m lo hi) : b < w.heap.size := heap_lt h

set_option maxHeartbeats 800000 in
/-- The first number of a state. -/
theorem join1_first (b c : Nat) (k m lo hi v : Int) (w : World) (h : SCel w b k 0 m lo hi) :
    Calls Tryd.prog 43 #[.pointer (some ⟨b, 0, none⟩), .int .i64 v, .pointer (some ⟨c, 0, none⟩)] w (TurnP b k 0 v lo hi w) := by
  have H := Lib.hid h
  have c1 : w.cell? ⟨b, 1, none⟩ = some (.int .i64 0) := by rw [cell_of h]; rfl
  have c2 : w.cell? ⟨b, 2, none⟩ = some (.int .i64 m) := by rw [cell_of h]; rfl
  have f2 := frozen_of (o := 2) h
  have H2 := Lib.hid (heap_set (o := 2) (v := .int .i64 v) h)
  clear h
  go_enter Tryd.func43, Tryd.ntmps43
  go_wp2
  go_end0
  exact ⟨rfl, H2.out, gb_set (gb_refl _ _) _ _⟩
set_option maxHeartbeats 800000 in
/-- A number more. -/
theorem join1_more (g : FuncId) (J : Int → Int → Int) (hent : ∀ args w, (callFunc g args).run Tryd.prog w = .ok (.enter g args) w) (hJ : Hid (∀ x y W, in64 x → in64 y → Calls Tryd.prog g #[.int .i64 x, .int .i64 y] W fun e w' => e = .returned (.int .i64 (J x y)) ∧ W = w'))
    (b c : Nat) (k n m lo hi v : Int) (w : World) (h : SCel w b k n m lo hi) (hc : w.cell? ⟨c, 0, none⟩ = some (fv g)) (hn : 0 < n) (hm : in64 m) (hv : in64 v) :
    Calls Tryd.prog 43 #[.pointer (some ⟨b, 0, none⟩), .int .i64 v, .pointer (some ⟨c, 0, none⟩)] w (TurnP b k n (J m v) lo hi w) := by
  unfold fv at hc
  have H := Lib.hid h
  have HM := Lib.hid hm
  have HV := Lib.hid hv
  clear hm hv
  have c1 : w.cell? ⟨b, 1, none⟩ = some (.int .i64 n) := by rw [cell_of h]; rfl
  have c2 : w.cell? ⟨b, 2, none⟩ = some (.int .i64 m) := by rw [cell_of h]; rfl
  clear h
  go_enter Tryd.func43, Tryd.ntmps43
  go_wp2
  go_quiet (with_reducible exact quietL (hJ.out _ _ _ HM.out HV.out))
  have g1 := (show Drew w (w.drewN nq) from ⟨nq, rfl⟩).gb (some b)
  have h2 : SCel (w.drewN nq) b k n m lo hi := H.out
  generalize w.drewN nq = W1 at *
  have d2 : W1.cell? ⟨b, 2, none⟩ = some (.int .i64 m) := by rw [cell_of h2]; rfl
  have f2 := frozen_of (o := 2) h2
  have H2 := Lib.hid (heap_set (o := 2) (v := .int .i64 (J m v)) h2)
  clear h2 c1 c2
  go_wp2
  go_end0
  exact ⟨rfl, H2.out, gb_set g1 _ _⟩

set_option maxHeartbeats 800000 in
theorem join2_any (b : Nat) (k n m lo hi : Int) (w : World) (h : SCel w b k n m lo hi) :
    Calls Tryd.prog 44 #[.pointer (some ⟨b, 0, none⟩)] w fun e w' => e = .returned (.int .i64 m) ∧ w = w' := by
  have c2 : w.cell? ⟨b, 2, none⟩ = some (.int .i64 m) := by rw [cell_of h]; rfl
  clear h
  go_enter Tryd.func44, Tryd.ntmps44
  go_wp2
  go_ret
  exact ⟨rfl, rfl⟩
set_option maxHeartbeats 800000 in
theorem count1_any (b : Nat) (v : Int) (w : World) :
    Calls Tryd.prog 48 #[.pointer (some ⟨b, 0, none⟩), .int .i64 v] w fun e w' => e = .returned (.tuple #[]) ∧ w = w' := by
  go_enter Tryd.func48, Tryd.ntmps48
  go_wp2
  go_end0
  exact ⟨rfl, rfl⟩
set_option maxHeartbeats 800000 in
theorem count2_any (b : Nat) (k n m lo hi : Int) (w : World) (h : SCel w b k n m lo hi) :
    Calls Tryd.prog 49 #[.pointer (some ⟨b, 0, none⟩)] w fun e w' => e = .returned (.int .i64 n) ∧ w = w' := by
  have c2 : w.cell? ⟨b, 1, none⟩ = some (.int .i64 n) := by rw [cell_of h]; rfl
  clear h
  go_enter Tryd.func49, Tryd.ntmps49
  go_wp2
  go_ret
  exact ⟨rfl, rfl⟩

set_option maxHeartbeats 800000 in
theorem span2_any (b : Nat) (k n m lo hi : Int) (w : World) (h : SCel w b k n m lo hi) (hl : in64 lo) (hh : in64 hi) (hle : lo ≤ hi) :
    Calls Tryd.prog 47 #[.pointer (some ⟨b, 0, none⟩)] w fun e w' => e = .returned (.int .i64 (if hi - lo ≤ 9223372036854775807 then hi - lo else 9223372036854775807)) ∧ Drew w w' := by
  have c3 : w.cell? ⟨b, 3, none⟩ = some (.int .i64 lo) := by rw [cell_of h]; rfl
  have c4 : w.cell? ⟨b, 4, none⟩ = some (.int .i64 hi) := by rw [cell_of h]; rfl
  unfold in64 at hl hh
  clear h
  by_cases hd : hi - lo ≤ 9223372036854775807
  · have E := Lib.hid (show (if hi - lo ≤ 9223372036854775807 then hi - lo else 9223372036854775807) = hi - lo from if_pos hd)
    rw [E.out]
    have t1 : wrap64 (hi - lo) = hi - lo := by unfold wrap64; omega
    go_enter Tryd.func47, Tryd.ntmps47
    go_wp2
    go_quiet (fail)
    go_wp2
    go_ret
    exact ⟨rfl, nq, rfl⟩
  · have E := Lib.hid (show (if hi - lo ≤ 9223372036854775807 then hi - lo else 9223372036854775807) = 9223372036854775807 from if_neg hd)
    rw [E.out]
    have t1 : ¬ (0 ≤ wrap64 (hi - lo)) := by unfold wrap64; omega
    go_enter Tryd.func47, Tryd.ntmps47
    go_wp2
    go_quiet (fail)
    go_wp2
    go_ret
    exact ⟨rfl, nq, rfl⟩

end Go.Proofs.YtojnalpmibpchaaDoor
