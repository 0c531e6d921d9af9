/-
  Contracts.
-/
import Derived.Test.YtmifpfojhlmbkaaGreatJ4
import Derived.Test.YtmifpfojhlmbkaaGreatJ23
namespace Go.Proofs.YtmifpfojhlmbkaaGreat
open Lib (hid)
set_option maxRecDepth 100000
set_option maxHeartbeats 16000000
open Go.RowKit Go.Shelf
set_option linter.unusedVariables false
set_option linter.unusedSimpArgs false
def StP (w : World) (b : Nat) (k : Int) (l : List Int) : Prop :=
  ∃ m lo hi, SCel w b k l.length m lo hi ∧ (l ≠ [] → (k ≠ 4 → k ≠ 7 → m = valK k l) ∧ (k = 7 → lo = minL l ∧ hi = maxL l)) ∧ ∀ x ∈ l, in64 x
theorem SCel.keep {w w' : World} {b : Nat} {k n m lo hi : Int} {row : Option Nat} (h : SCel w b k n m lo hi) (g : w.grownBy w' row) (hr : some b ≠ row) : SCel w' b k n m lo hi := by
  unfold SCel at *
  rw [g.block b (heap_lt h) hr]; exact h
theorem StP.keep {w w' : World} {b : Nat} {k : Int} {l : List Int} {row : Option Nat} (h : StP w b k l) (g : w.grownBy w' row) (hr : some b ≠ row) : StP w' b k l := by
  obtain ⟨m, lo, hi, h1, h2⟩ := h; exact ⟨m, lo, hi, h1.keep g hr, h2⟩
theorem StP.keepN {w w' : World} {b : Nat} {k : Int} {l : List Int} (h : StP w b k l) (g : w.grownBy w' none) : StP w' b k l := h.keep g (by simp)
def WorkJ (g : FuncId) (w : World) (e : Ending) (w' : World) : Prop :=
  ∃ c, e = .returned (.agg #[.func (.func 303) #[] #[.pointer (some ⟨c, 0, none⟩)], fv 304]) ∧ w.heap.size ≤ c ∧ c < w'.heap.size ∧ w'.cell? ⟨c, 0, none⟩ = some (fv g) ∧ Below w.heap.size w w'
theorem work_sum (w : World) : Calls Tryz.prog 197 #[.int .i64 1] w (WorkJ 254 w) := by
  go_enter Tryz.func197, Tryz.ntmps197
  go_wp2_with fail
  obtain ⟨W0, hW⟩ : ∃ W, w.alloc (.cells #[.nilFunc, .nilFunc] 245) = W := ⟨_, rfl⟩
  obtain ⟨h0, B0, hs0⟩ := alloc1 _ _ _ hW
  rw [hW]
  clear hW
  refine (joining_any 254 W0).mono ?_
  rintro e W1 ⟨rfl, hc, hlt, b1⟩
  have h1 : W1.heap[w.heap.size]? = _ := (b1.block w.heap.size (by omega)).trans h0
  have B1 := bel_gbn B0 (by omega) (gb_below (row := none) b1)
  have s1 := b1.size
  clear h0 B0 b1
  generalize hx : w.heap.size = x at *
  generalize hc0 : W0.heap.size = c at *
  have f0 := frozen_of (o := 0) h1
  have f1 := frozen_of (o := 1) h1
  have c0 : W1.cell? ⟨x, 0, none⟩ = some .nilFunc := by rw [cell_of h1]; rfl
  have c1 : W1.cell? ⟨x, 1, none⟩ = some .nilFunc := by rw [cell_of h1]; rfl
  have H1 := hid (heap_set (o := 1) (v := fv 304) (heap_set (o := 0) (v := .func (.func 303) #[] #[.pointer (some ⟨c, 0, none⟩)]) h1))
  have B2 := hid ((B1.setCell (p := ⟨x, 0, none⟩) (Nat.le_refl _) (.func (.func 303) #[] #[.pointer (some ⟨c, 0, none⟩)])).setCell (p := ⟨x, 1, none⟩) (Nat.le_refl _) (fv 304))
  have HC := hid hc
  have HL := hid hlt
  have HN := hid (show c ≠ x by omega)
  have HX := hid (show x ≤ c by omega)
  clear h1 B1 hc hlt hs0 s1 hc0
  unfold fv at H1 B2 ⊢
  go_wp2
  try simp only [Exit.inBlock, Exit.then]
  refine bodyPost_ret (results_cell_row rfl _ _ _ _ _ _ _ rfl H1.out Tryz.underlying245 rfl rfl) rfl ?_
  refine ⟨c, rfl, by rw [hx]; exact HX.out, by simpa [World.setCell] using HL.out, ?_, by rw [hx]; exact B2.out⟩
  rw [World.cell?, heap_set_ne HN.out, heap_set_ne HN.out]
  exact HC.out
theorem work_min (w : World) : Calls Tryz.prog 197 #[.int .i64 2] w (WorkJ 255 w) := by
  go_enter Tryz.func197, Tryz.ntmps197
  go_wp2_with fail
  obtain ⟨W0, hW⟩ : ∃ W, w.alloc (.cells #[.nilFunc, .nilFunc] 245) = W := ⟨_, rfl⟩
  obtain ⟨h0, B0, hs0⟩ := alloc1 _ _ _ hW
  rw [hW]
  clear hW
  refine (joining_any 255 W0).mono ?_
  rintro e W1 ⟨rfl, hc, hlt, b1⟩
  have h1 : W1.heap[w.heap.size]? = _ := (b1.block w.heap.size (by omega)).trans h0
  have B1 := bel_gbn B0 (by omega) (gb_below (row := none) b1)
  have s1 := b1.size
  clear h0 B0 b1
  generalize hx : w.heap.size = x at *
  generalize hc0 : W0.heap.size = c at *
  have f0 := frozen_of (o := 0) h1
  have f1 := frozen_of (o := 1) h1
  have c0 : W1.cell? ⟨x, 0, none⟩ = some .nilFunc := by rw [cell_of h1]; rfl
  have c1 : W1.cell? ⟨x, 1, none⟩ = some .nilFunc := by rw [cell_of h1]; rfl
  have H1 := hid (heap_set (o := 1) (v := fv 304) (heap_set (o := 0) (v := .func (.func 303) #[] #[.pointer (some ⟨c, 0, none⟩)]) h1))
  have B2 := hid ((B1.setCell (p := ⟨x, 0, none⟩) (Nat.le_refl _) (.func (.func 303) #[] #[.pointer (some ⟨c, 0, none⟩)])).setCell (p := ⟨x, 1, none⟩) (Nat.le_refl _) (fv 304))
  have HC := hid hc
  have HL := hid hlt
  have HN := hid (show c ≠ x by omega)
  have HX := hid (show x ≤ c by omega)
  clear h1 B1 hc hlt hs0 s1 hc0
  unfold fv at H1 B2 ⊢
  go_wp2
  try simp only [Exit.inBlock, Exit.then]
  refine bodyPost_ret (results_cell_row rfl _ _ _ _ _ _ _ rfl H1.out Tryz.underlying245 rfl rfl) rfl ?_
  refine ⟨c, rfl, by rw [hx]; exact HX.out, by simpa [World.setCell] using HL.out, ?_, by rw [hx]; exact B2.out⟩
  rw [World.cell?, heap_set_ne HN.out, heap_set_ne HN.out]
  exact HC.out
theorem work_max (w : World) : Calls Tryz.prog 197 #[.int .i64 3] w (WorkJ 256 w) := by
  go_enter Tryz.func197, Tryz.ntmps197
  go_wp2_with fail
  obtain ⟨W0, hW⟩ : ∃ W, w.alloc (.cells #[.nilFunc, .nilFunc] 245) = W := ⟨_, rfl⟩
  obtain ⟨h0, B0, hs0⟩ := alloc1 _ _ _ hW
  rw [hW]
  clear hW
  refine (joining_any 256 W0).mono ?_
  rintro e W1 ⟨rfl, hc, hlt, b1⟩
  have h1 : W1.heap[w.heap.size]? = _ := (b1.block w.heap.size (by omega)).trans h0
  have B1 := bel_gbn B0 (by omega) (gb_below (row := none) b1)
  have s1 := b1.size
  clear h0 B0 b1
  generalize hx : w.heap.size = x at *
  generalize hc0 : W0.heap.size = c at *
  have f0 := frozen_of (o := 0) h1
  have f1 := frozen_of (o := 1) h1
  have c0 : W1.cell? ⟨x, 0, none⟩ = some .nilFunc := by rw [cell_of h1]; rfl
  have c1 : W1.cell? ⟨x, 1, none⟩ = some .nilFunc := by rw [cell_of h1]; rfl
  have H1 := hid (heap_set (o := 1) (v := fv 304) (heap_set (o := 0) (v := .func (.func 303) #[] #[.pointer (some ⟨c, 0, none⟩)]) h1))
  have B2 := hid ((B1.setCell (p := ⟨x, 0, none⟩) (Nat.le_refl _) (.func (.func 303) #[] #[.pointer (some ⟨c, 0, none⟩)])).setCell (p := ⟨x, 1, none⟩) (Nat.le_refl _) (fv 304))
  have HC := hid hc
  have HL := hid hlt
  have HN := hid (show c ≠ x by omega)
  have HX := hid (show x ≤ c by omega)
  clear h1 B1 hc hlt hs0 s1 hc0
  unfold fv at H1 B2 ⊢
  go_wp2
  try simp only [Exit.inBlock, Exit.then]
  refine bodyPost_ret (results_cell_row rfl _ _ _ _ _ _ _ rfl H1.out Tryz.underlying245 rfl rfl) rfl ?_
  refine ⟨c, rfl, by rw [hx]; exact HX.out, by simpa [World.setCell] using HL.out, ?_, by rw [hx]; exact B2.out⟩
  rw [World.cell?, heap_set_ne HN.out, heap_set_ne HN.out]
  exact HC.out
theorem work_fst (w : World) : Calls Tryz.prog 197 #[.int .i64 5] w (WorkJ 257 w) := by
  go_enter Tryz.func197, Tryz.ntmps197
  go_wp2_with fail
  obtain ⟨W0, hW⟩ : ∃ W, w.alloc (.cells #[.nilFunc, .nilFunc] 245) = W := ⟨_, rfl⟩
  obtain ⟨h0, B0, hs0⟩ := alloc1 _ _ _ hW
  rw [hW]
  clear hW
  refine (joining_any 257 W0).mono ?_
  rintro e W1 ⟨rfl, hc, hlt, b1⟩
  have h1 : W1.heap[w.heap.size]? = _ := (b1.block w.heap.size (by omega)).trans h0
  have B1 := bel_gbn B0 (by omega) (gb_below (row := none) b1)
  have s1 := b1.size
  clear h0 B0 b1
  generalize hx : w.heap.size = x at *
  generalize hc0 : W0.heap.size = c at *
  have f0 := frozen_of (o := 0) h1
  have f1 := frozen_of (o := 1) h1
  have c0 : W1.cell? ⟨x, 0, none⟩ = some .nilFunc := by rw [cell_of h1]; rfl
  have c1 : W1.cell? ⟨x, 1, none⟩ = some .nilFunc := by rw [cell_of h1]; rfl
  have H1 := hid (heap_set (o := 1) (v := fv 304) (heap_set (o := 0) (v := .func (.func 303) #[] #[.pointer (some ⟨c, 0, none⟩)]) h1))
  have B2 := hid ((B1.setCell (p := ⟨x, 0, none⟩) (Nat.le_refl _) (.func (.func 303) #[] #[.pointer (some ⟨c, 0, none⟩)])).setCell (p := ⟨x, 1, none⟩) (Nat.le_refl _) (fv 304))
  have HC := hid hc
  have HL := hid hlt
  have HN := hid (show c ≠ x by omega)
  have HX := hid (show x ≤ c by omega)
  clear h1 B1 hc hlt hs0 s1 hc0
  unfold fv at H1 B2 ⊢
  go_wp2
  try simp only [Exit.inBlock, Exit.then]
  refine bodyPost_ret (results_cell_row rfl _ _ _ _ _ _ _ rfl H1.out Tryz.underlying245 rfl rfl) rfl ?_
  refine ⟨c, rfl, by rw [hx]; exact HX.out, by simpa [World.setCell] using HL.out, ?_, by rw [hx]; exact B2.out⟩
  rw [World.cell?, heap_set_ne HN.out, heap_set_ne HN.out]
  exact HC.out
theorem work_lst (w : World) : Calls Tryz.prog 197 #[.int .i64 6] w (WorkJ 258 w) := by
  go_enter Tryz.func197, Tryz.ntmps197
  go_wp2_with fail
  obtain ⟨W0, hW⟩ : ∃ W, w.alloc (.cells #[.nilFunc, .nilFunc] 245) = W := ⟨_, rfl⟩
  obtain ⟨h0, B0, hs0⟩ := alloc1 _ _ _ hW
  rw [hW]
  clear hW
  refine (joining_any 258 W0).mono ?_
  rintro e W1 ⟨rfl, hc, hlt, b1⟩
  have h1 : W1.heap[w.heap.size]? = _ := (b1.block w.heap.size (by omega)).trans h0
  have B1 := bel_gbn B0 (by omega) (gb_below (row := none) b1)
  have s1 := b1.size
  clear h0 B0 b1
  generalize hx : w.heap.size = x at *
  generalize hc0 : W0.heap.size = c at *
  have f0 := frozen_of (o := 0) h1
  have f1 := frozen_of (o := 1) h1
  have c0 : W1.cell? ⟨x, 0, none⟩ = some .nilFunc := by rw [cell_of h1]; rfl
  have c1 : W1.cell? ⟨x, 1, none⟩ = some .nilFunc := by rw [cell_of h1]; rfl
  have H1 := hid (heap_set (o := 1) (v := fv 304) (heap_set (o := 0) (v := .func (.func 303) #[] #[.pointer (some ⟨c, 0, none⟩)]) h1))
  have B2 := hid ((B1.setCell (p := ⟨x, 0, none⟩) (Nat.le_refl _) (.func (.func 303) #[] #[.pointer (some ⟨c, 0, none⟩)])).setCell (p := ⟨x, 1, none⟩) (Nat.le_refl _) (fv 304))
  have HC := hid hc
  have HL := hid hlt
  have HN := hid (show c ≠ x by omega)
  have HX := hid (show x ≤ c by omega)
  clear h1 B1 hc hlt hs0 s1 hc0
  unfold fv at H1 B2 ⊢
  go_wp2
  try simp only [Exit.inBlock, Exit.then]
  refine bodyPost_ret (results_cell_row rfl _ _ _ _ _ _ _ rfl H1.out Tryz.underlying245 rfl rfl) rfl ?_
  refine ⟨c, rfl, by rw [hx]; exact HX.out, by simpa [World.setCell] using HL.out, ?_, by rw [hx]; exact B2.out⟩
  rw [World.cell?, heap_set_ne HN.out, heap_set_ne HN.out]
  exact HC.out
theorem work_span (w : World) : Calls Tryz.prog 197 #[.int .i64 7] w (PairA 305 306 w) := by
  go_enter Tryz.func197, Tryz.ntmps197
  go_wp2_with fail
  obtain ⟨W0, hW⟩ : ∃ W, w.alloc (.cells #[.nilFunc, .nilFunc] 245) = W := ⟨_, rfl⟩
  obtain ⟨h0, B0, hs0⟩ := alloc1 _ _ _ hW
  rw [hW]
  clear hW
  refine (spanning_any W0).mono ?_
  rintro e W1 ⟨rfl, b1⟩
  have h1 : W1.heap[w.heap.size]? = _ := (b1.block w.heap.size (by omega)).trans h0
  have B1 := bel_gbn B0 (by omega) (gb_below (row := none) b1)
  clear h0 B0 b1
  generalize hx : w.heap.size = x at *
  have f0 := frozen_of (o := 0) h1
  have f1 := frozen_of (o := 1) h1
  have c0 : W1.cell? ⟨x, 0, none⟩ = some .nilFunc := by rw [cell_of h1]; rfl
  have c1 : W1.cell? ⟨x, 1, none⟩ = some .nilFunc := by rw [cell_of h1]; rfl
  have H1 := hid (heap_set (o := 1) (v := fv 306) (heap_set (o := 0) (v := fv 305) h1))
  have B2 := hid ((B1.setCell (p := ⟨x, 0, none⟩) (Nat.le_refl _) (fv 305)).setCell (p := ⟨x, 1, none⟩) (Nat.le_refl _) (fv 306))
  clear h1 B1 hs0
  unfold PairA fv at *
  go_wp2
  try simp only [Exit.inBlock, Exit.then]
  refine bodyPost_ret (results_cell_row rfl _ _ _ _ _ _ _ rfl H1.out Tryz.underlying245 rfl rfl) rfl ?_
  exact ⟨rfl, by rw [hx]; exact B2.out⟩
theorem work_count (w : World) : Calls Tryz.prog 197 #[.int .i64 4] w (PairA 307 308 w) := by
  go_enter Tryz.func197, Tryz.ntmps197
  go_wp2_with fail
  obtain ⟨W0, hW⟩ : ∃ W, w.alloc (.cells #[.nilFunc, .nilFunc] 245) = W := ⟨_, rfl⟩
  obtain ⟨h0, B0, hs0⟩ := alloc1 _ _ _ hW
  rw [hW]
  clear hW
  refine (counting_any W0).mono ?_
  rintro e W1 ⟨rfl, b1⟩
  have h1 : W1.heap[w.heap.size]? = _ := (b1.block w.heap.size (by omega)).trans h0
  have B1 := bel_gbn B0 (by omega) (gb_below (row := none) b1)
  clear h0 B0 b1
  generalize hx : w.heap.size = x at *
  have f0 := frozen_of (o := 0) h1
  have f1 := frozen_of (o := 1) h1
  have c0 : W1.cell? ⟨x, 0, none⟩ = some .nilFunc := by rw [cell_of h1]; rfl
  have c1 : W1.cell? ⟨x, 1, none⟩ = some .nilFunc := by rw [cell_of h1]; rfl
  have H1 := hid (heap_set (o := 1) (v := fv 308) (heap_set (o := 0) (v := fv 307) h1))
  have B2 := hid ((B1.setCell (p := ⟨x, 0, none⟩) (Nat.le_refl _) (fv 307)).setCell (p := ⟨x, 1, none⟩) (Nat.le_refl _) (fv 308))
  clear h1 B1 hs0
  unfold PairA fv at *
  go_wp2
  try simp only [Exit.inBlock, Exit.then]
  refine bodyPost_ret (results_cell_row rfl _ _ _ _ _ _ _ rfl H1.out Tryz.underlying245 rfl rfl) rfl ?_
  exact ⟨rfl, by rw [hx]; exact B2.out⟩
theorem isnone_any (b : Nat) (k n m lo hi : Int) (w : World) (h : SCel w b k n m lo hi) (hk : k ≠ 0) :
    Calls Tryz.prog 196 #[.pointer (some ⟨b, 0, none⟩)] w fun e w' => e = .returned (.bool false) ∧ w = w' := by
  have c0 : w.cell? ⟨b, 0, none⟩ = some (.int .i64 k) := by rw [cell_of h]; rfl
  have t0 : (k == 0) = false := by simpa using hk
  clear h hk
  go_enter Tryz.func196, Tryz.ntmps196
  go_wp2
  go_ret
  exact ⟨rfl, rfl⟩
def AddP (b : Nat) (k : Int) (l : List Int) (w : World) (e : Ending) (w' : World) : Prop := e = .returned (.int .i64 0) ∧ StP w' b k l ∧ w.grownBy w' (some b)
theorem add_join (g : FuncId) (J : Int → Int → Int) (k : Int) (hent : ∀ args w, (callFunc g args).run Tryz.prog w = .ok (.enter g args) w)
    (hJ : Hid (∀ x y W, in64 x → in64 y → Calls Tryz.prog g #[.int .i64 x, .int .i64 y] W fun e w' => e = .returned (.int .i64 (J x y)) ∧ W = w'))
    (hW : Hid (∀ W, Calls Tryz.prog 197 #[.int .i64 k] W (WorkJ g W))) (hk0 : k ≠ 0) (hk4 : k ≠ 4) (hk7 : k ≠ 7)
    (h1v : Hid (∀ v, valK k [v] = v)) (hsv : Hid (∀ l v, l ≠ [] → valK k (l ++ [v]) = J (valK k l) v)) (h64 : Hid (∀ l, l ≠ [] → (∀ x ∈ l, in64 x) → in64 (valK k l)))
    (b : Nat) (l : List Int) (v : Int) (w : World) (h : StP w b k l) (hv : in64 v) (hl : l.length < 4611686018427387904) :
    Calls Tryz.prog 121 #[.pointer (some ⟨b, 0, none⟩), .int .i64 v] w (AddP b k (l ++ [v]) w) := by
  obtain ⟨m, lo, hi, hs, hm, hin⟩ := h
  have HS := hid hs
  have HIN := hid hin
  have HV := hid hv
  have blt := hs.lt
  have c0 : w.cell? ⟨b, 0, none⟩ = some (.int .i64 k) := by rw [cell_of hs]; rfl
  have HM := hid hm
  have HK0 := hid hk0
  have HK4 := hid hk4
  have HK7 := hid hk7
  clear hs hin hv hm hk0 hk4 hk7
  go_enter Tryz.func121, Tryz.ntmps121
  go_wp2_with fail
  refine (isnone_any b _ _ _ _ _ _ HS.out HK0.out).mono ?_
  rintro e w' ⟨rfl, rfl⟩
  go_wp2_with fail
  refine (hW.out _).mono ?_
  rintro e W1 ⟨c, rfl, hcl, hcs, hcc, b1⟩
  have g1 := gb_below (row := some b) b1
  have hs1 : SCel W1 b k l.length m lo hi := HS.out.keep (gb_below (row := none) b1) (by simp)
  clear c0 hcl hcs b1
  unfold fv
  have hfd : ∀ W : World, (Instr.field 245 (.agg #[.func (.func 303) #[] #[.pointer (some ⟨c, 0, none⟩)], .func (.func 304) #[] #[]]) 0).run Tryz.prog W = .ok (.func (.func 303) #[] #[.pointer (some ⟨c, 0, none⟩)]) W := fun _ => by kernel_rfl
  go_wp2_with fail
  clear hfd
  have key : Calls Tryz.prog 303 #[.pointer (some ⟨b, 0, none⟩), .int .i64 v, .pointer (some ⟨c, 0, none⟩)] W1 (TurnP b k l.length (valK k (l ++ [v])) lo hi W1) := by
    by_cases hne : l = []
    · subst hne
      rw [List.nil_append, h1v.out]
      exact join1_first b c k m lo hi v W1 hs1
    · rw [hsv.out l v hne, ← (HM.out hne).1 HK4.out HK7.out]
      refine join1_more g J hent hJ b c k _ m lo hi v W1 hs1 hcc ?_ ?_ HV.out
      · have := List.length_pos_iff.2 hne; omega
      · rw [(HM.out hne).1 HK4.out HK7.out]; exact h64.out l hne HIN.out
  refine key.mono ?_
  rintro e W2 ⟨rfl, hs2, g2⟩
  have G2 := gb_trans g1 g2
  have d1 : W2.cell? ⟨b, 1, none⟩ = some (.int .i64 l.length) := by rw [cell_of hs2]; rfl
  have f1 := frozen_of (o := 1) hs2
  have H3 := hid (heap_set (o := 1) (v := .int .i64 ((l.length : Int) + 1)) hs2)
  have G3 := hid (gb_set G2 1 (.int .i64 ((l.length : Int) + 1)))
  clear key hs1 hs2 hcc g1 g2 G2
  go_wp2
  go_ret
  refine ⟨rfl, ⟨valK k (l ++ [v]), lo, hi, ?_, fun _ => ⟨fun _ _ => rfl, fun h7 => absurd h7 HK7.out⟩, ?_⟩, G3.out⟩
  · have := H3.out
    unfold SCel
    rw [this, List.length_append, List.length_singleton]
    rfl
  · intro x hx
    rcases List.mem_append.1 hx with hx | hx
    · exact HIN.out x hx
    · rw [List.mem_singleton] at hx; rw [hx]; exact HV.out
theorem add_span (b : Nat) (l : List Int) (v : Int) (w : World) (h : StP w b 7 l) (hv : in64 v) (hl : l.length < 4611686018427387904) :
    Calls Tryz.prog 121 #[.pointer (some ⟨b, 0, none⟩), .int .i64 v] w (AddP b 7 (l ++ [v]) w) := by
  obtain ⟨m, lo, hi, hs, hm, hin⟩ := h
  have HS := hid hs
  have HIN := hid hin
  have HV := hid hv
  have blt := hs.lt
  have c0 : w.cell? ⟨b, 0, none⟩ = some (.int .i64 7) := by rw [cell_of hs]; rfl
  have HM := hid (fun hne => (hm hne).2 rfl)
  clear hs hin hv hm
  go_enter Tryz.func121, Tryz.ntmps121
  go_wp2_with fail
  refine (isnone_any b _ _ _ _ _ _ HS.out (by omega)).mono ?_
  rintro e w' ⟨rfl, rfl⟩
  go_wp2_with fail
  refine (work_span _).mono ?_
  rintro e W1 ⟨rfl, b1⟩
  have g1 := gb_below (row := some b) b1
  have hs1 : SCel W1 b 7 l.length m lo hi := HS.out.keep (gb_below (row := none) b1) (by simp)
  clear c0 b1
  unfold fv
  have hfd : ∀ W : World, (Instr.field 245 (.agg #[.func (.func 305) #[] #[], .func (.func 306) #[] #[]]) 0).run Tryz.prog W = .ok (.func (.func 305) #[] #[]) W := fun _ => by kernel_rfl
  go_wp2_with fail
  clear hfd
  have key : Calls Tryz.prog 305 #[.pointer (some ⟨b, 0, none⟩), .int .i64 v] W1 (TurnP b 7 l.length m (minL (l ++ [v])) (maxL (l ++ [v])) W1) := by
    by_cases hne : l = []
    · subst hne
      exact span1_first b 7 m lo hi v W1 hs1
    · have e1 : minL (l ++ [v]) = min (minL l) v := fold1_snoc min l v hne
      have e2 : maxL (l ++ [v]) = max (maxL l) v := fold1_snoc max l v hne
      rw [e1, e2, ← (HM.out hne).1, ← (HM.out hne).2]
      exact span1_more b 7 _ m lo hi v W1 hs1 (by have := List.length_pos_iff.2 hne; omega)
  refine key.mono ?_
  rintro e W2 ⟨rfl, hs2, g2⟩
  have G2 := gb_trans g1 g2
  have d1 : W2.cell? ⟨b, 1, none⟩ = some (.int .i64 l.length) := by rw [cell_of hs2]; rfl
  have f1 := frozen_of (o := 1) hs2
  have H3 := hid (heap_set (o := 1) (v := .int .i64 ((l.length : Int) + 1)) hs2)
  have G3 := hid (gb_set G2 1 (.int .i64 ((l.length : Int) + 1)))
  clear key hs1 hs2 g1 g2 G2
  go_wp2
  go_ret
  refine ⟨rfl, ⟨m, minL (l ++ [v]), maxL (l ++ [v]), ?_, fun _ => ⟨fun _ h7 => absurd rfl h7, fun _ => ⟨rfl, rfl⟩⟩, ?_⟩, G3.out⟩
  · have := H3.out
    unfold SCel
    rw [this, List.length_append, List.length_singleton]
    rfl
  · intro x hx
    rcases List.mem_append.1 hx with hx | hx
    · exact HIN.out x hx
    · rw [List.mem_singleton] at hx; rw [hx]; exact HV.out
theorem add_count (b : Nat) (l : List Int) (v : Int) (w : World) (h : StP w b 4 l) (hv : in64 v) (hl : l.length < 4611686018427387904) :
    Calls Tryz.prog 121 #[.pointer (some ⟨b, 0, none⟩), .int .i64 v] w (AddP b 4 (l ++ [v]) w) := by
  obtain ⟨m, lo, hi, hs, hm, hin⟩ := h
  have HS := hid hs
  have HIN := hid hin
  have HV := hid hv
  have blt := hs.lt
  have c0 : w.cell? ⟨b, 0, none⟩ = some (.int .i64 4) := by rw [cell_of hs]; rfl
  clear hs hin hv hm
  go_enter Tryz.func121, Tryz.ntmps121
  go_wp2_with fail
  refine (isnone_any b _ _ _ _ _ _ HS.out (by omega)).mono ?_
  rintro e w' ⟨rfl, rfl⟩
  go_wp2_with fail
  refine (work_count _).mono ?_
  rintro e W1 ⟨rfl, b1⟩
  have g1 := gb_below (row := some b) b1
  have hs1 : SCel W1 b 4 l.length m lo hi := HS.out.keep (gb_below (row := none) b1) (by simp)
  clear c0 b1
  unfold fv
  have hfd : ∀ W : World, (Instr.field 245 (.agg #[.func (.func 307) #[] #[], .func (.func 308) #[] #[]]) 0).run Tryz.prog W = .ok (.func (.func 307) #[] #[]) W := fun _ => by kernel_rfl
  go_wp2_with fail
  clear hfd
  refine (count1_any b v W1).mono ?_
  rintro e W2 ⟨rfl, rfl⟩
  have d1 : W1.cell? ⟨b, 1, none⟩ = some (.int .i64 l.length) := by rw [cell_of hs1]; rfl
  have f1 := frozen_of (o := 1) hs1
  have H3 := hid (heap_set (o := 1) (v := .int .i64 ((l.length : Int) + 1)) hs1)
  have G3 := hid (gb_set g1 1 (.int .i64 ((l.length : Int) + 1)))
  clear hs1 g1
  go_wp2
  go_ret
  refine ⟨rfl, ⟨m, lo, hi, ?_, fun _ => ⟨fun h4 => absurd rfl h4, fun h7 => by omega⟩, ?_⟩, G3.out⟩
  · have := H3.out
    unfold SCel
    rw [this, List.length_append, List.length_singleton]
    rfl
  · intro x hx
    rcases List.mem_append.1 hx with hx | hx
    · exact HIN.out x hx
    · rw [List.mem_singleton] at hx; rw [hx]; exact HV.out
theorem valK_of {l : List Int} (h : l ≠ []) : valK 1 l = sumC l ∧ valK 2 l = minL l ∧ valK 3 l = maxL l ∧ valK 4 l = l.length ∧ valK 5 l = l.headD 0 ∧ valK 6 l = l.getLastD 0 ∧ valK 7 l = wideL l := by
  unfold valK
  simp [h]
theorem valK_in {k : Int} {l : List Int} (h : l ≠ []) (hin : ∀ x ∈ l, in64 x) (hl : l.length < 4611686018427387904) : in64 (valK k l) := by
  have hmin := minL_is l h
  have hmax := maxL_is l h
  have h1 := sumC_in l h hin
  have h2 := hin _ hmin.1
  have h3 := hin _ hmax.1
  have h5 : in64 (l.headD 0) := by cases l with | nil => exact absurd rfl h | cons a l => exact hin a (by simp)
  have h6 : in64 (l.getLastD 0) := by rw [List.getLastD_eq_getLast?, List.getLast?_eq_some_getLast h]; exact hin _ (List.getLast_mem h)
  have h7 : in64 (wideL l) := by
    have := hmin.2 _ hmax.1
    unfold wideL
    unfold in64 at *
    split <;> omega
  unfold valK
  rw [if_neg h]
  (repeat' split) <;> first | assumption | (unfold in64; omega)
theorem snoc_ne {l : List Int} {v : Int} : l ++ [v] ≠ [] := by simp
theorem valK_one (v : Int) : valK 1 [v] = v ∧ valK 2 [v] = v ∧ valK 3 [v] = v ∧ valK 5 [v] = v ∧ valK 6 [v] = v := by simp [valK, sumC, minL, maxL, fold1]
theorem valK_snoc {l : List Int} (h : l ≠ []) (v : Int) : valK 1 (l ++ [v]) = capS (valK 1 l) v ∧ valK 2 (l ++ [v]) = min (valK 2 l) v ∧ valK 3 (l ++ [v]) = max (valK 3 l) v ∧ valK 5 (l ++ [v]) = valK 5 l ∧ valK 6 (l ++ [v]) = v := by
  obtain ⟨a1, a2, a3, a4, a5, a6, a7⟩ := valK_of h
  obtain ⟨b1, b2, b3, b4, b5, b6, b7⟩ := valK_of (snoc_ne (l := l) (v := v))
  rw [a1, a2, a3, a5, b1, b2, b3, b5, b6]
  refine ⟨fold1_snoc capS l v h, fold1_snoc min l v h, fold1_snoc max l v h, ?_, ?_⟩
  · cases l with
    | nil => exact absurd rfl h
    | cons a l => rfl
  · simp [List.getLastD_eq_getLast?]
theorem add_st (b : Nat) (k : Int) (l : List Int) (v : Int) (w : World) (hk : kok k) (h : StP w b k l) (hv : in64 v) (hl : l.length < 4611686018427387904) :
    Calls Tryz.prog 121 #[.pointer (some ⟨b, 0, none⟩), .int .i64 v] w (AddP b k (l ++ [v]) w) := by
  have h64 : ∀ k : Int, ∀ l : List Int, l ≠ [] → (∀ x ∈ l, in64 x) → l.length < 4611686018427387904 → in64 (valK k l) := fun k l h1 h2 h3 => valK_in h1 h2 h3
  rcases kinds hk with rfl | rfl | rfl | rfl | rfl | rfl | rfl
  · exact add_join 254 capS 1 (enters_of Tryz.func254 (by kernel_rfl) rfl) (hid fun x y W hx hy => cap_any x y W hx hy) (hid work_sum) (by omega) (by omega) (by omega)
      (hid fun v => (valK_one v).1) (hid fun l v h => (valK_snoc h v).1) (hid fun l h1 h2 => by rw [(valK_of h1).1]; exact sumC_in l h1 h2) b l v w h hv hl
  · exact add_join 255 min 2 (enters_of Tryz.func255 (by kernel_rfl) rfl) (hid fun x y W hx hy => jmin_any x y W) (hid work_min) (by omega) (by omega) (by omega)
      (hid fun v => (valK_one v).2.1) (hid fun l v h => (valK_snoc h v).2.1) (hid fun l h1 h2 => by rw [(valK_of h1).2.1]; exact h2 _ (minL_is l h1).1) b l v w h hv hl
  · exact add_join 256 max 3 (enters_of Tryz.func256 (by kernel_rfl) rfl) (hid fun x y W hx hy => jmax_any x y W) (hid work_max) (by omega) (by omega) (by omega)
      (hid fun v => (valK_one v).2.2.1) (hid fun l v h => (valK_snoc h v).2.2.1) (hid fun l h1 h2 => by rw [(valK_of h1).2.2.1]; exact h2 _ (maxL_is l h1).1) b l v w h hv hl
  · exact add_count b l v w h hv hl
  · exact add_join 257 (fun x _ => x) 5 (enters_of Tryz.func257 (by kernel_rfl) rfl) (hid fun x y W hx hy => jfst_any x y W) (hid work_fst) (by omega) (by omega) (by omega)
      (hid fun v => (valK_one v).2.2.2.1) (hid fun l v h => (valK_snoc h v).2.2.2.1) (hid fun l h1 h2 => by
        rw [(valK_of h1).2.2.2.2.1]; cases l with | nil => exact absurd rfl h1 | cons a l => exact h2 a (by simp)) b l v w h hv hl
  · exact add_join 258 (fun _ y => y) 6 (enters_of Tryz.func258 (by kernel_rfl) rfl) (hid fun x y W hx hy => jlst_any x y W) (hid work_lst) (by omega) (by omega) (by omega)
      (hid fun v => (valK_one v).2.2.2.2) (hid fun l v h => (valK_snoc h v).2.2.2.2) (hid fun l h1 h2 => by
        rw [(valK_of h1).2.2.2.2.2.1, List.getLastD_eq_getLast?, List.getLast?_eq_some_getLast h1]; exact h2 _ (List.getLast_mem h1)) b l v w h hv hl
  · exact add_span b l v w h hv hl
def tell (v : Int) (b : Bool) : Value := .tuple #[.int .i64 v, .bool b]
def ValP (k : Int) (l : List Int) (w : World) (e : Ending) (w' : World) : Prop := e = .returned (tell (valK k l) (decide (l ≠ []))) ∧ Below w.heap.size w w'
theorem Drew.below {w w' : World} (h : Drew w w') : Below w.heap.size w w' := gb_below_none (h.gb none)
theorem value_empty (b : Nat) (k : Int) (w : World) (hk : kok k) (h : StP w b k []) :
    Calls Tryz.prog 122 #[.pointer (some ⟨b, 0, none⟩)] w (ValP k [] w) := by
  obtain ⟨m, lo, hi, hs, _, _⟩ := h
  have HS := hid hs
  have c1 : w.cell? ⟨b, 1, none⟩ = some (.int .i64 0) := by rw [cell_of hs]; rfl
  have HK := hid (show k ≠ 0 by unfold kok at hk; omega)
  have E := hid (valK_nil k)
  clear hs hk
  go_enter Tryz.func122, Tryz.ntmps122
  go_wp2_with fail
  refine (isnone_any b _ _ _ _ _ _ HS.out HK.out).mono ?_
  rintro e w' ⟨rfl, rfl⟩
  go_wp2
  go_ret2
  exact ⟨by rw [E.out]; rfl, Below.refl _ _⟩
theorem value_join (g : FuncId) (k : Int) (hW : Hid (∀ W, Calls Tryz.prog 197 #[.int .i64 k] W (WorkJ g W))) (hk0 : k ≠ 0) (hk4 : k ≠ 4) (hk7 : k ≠ 7)
    (b : Nat) (l : List Int) (w : World) (h : StP w b k l) (hne : l ≠ []) (hl : l.length < 4611686018427387904) :
    Calls Tryz.prog 122 #[.pointer (some ⟨b, 0, none⟩)] w (ValP k l w) := by
  obtain ⟨m, lo, hi, hs, hm, hin⟩ := h
  have HS := hid hs
  have hp := List.length_pos_iff.2 hne
  have HE := hid ((hm hne).1 hk4 hk7)
  have HN := hid hne
  have HK0 := hid hk0
  have c1 : w.cell? ⟨b, 1, none⟩ = some (.int .i64 l.length) := by rw [cell_of hs]; rfl
  have c0 : w.cell? ⟨b, 0, none⟩ = some (.int .i64 k) := by rw [cell_of hs]; rfl
  have t1 : ((l.length : Int) == 0) = false := by rw [beq_eq_false_iff_ne]; omega
  clear hs hm hin hk0 hk4 hk7 hne
  go_enter Tryz.func122, Tryz.ntmps122
  go_wp2_with fail
  refine (isnone_any b _ _ _ _ _ _ HS.out HK0.out).mono ?_
  rintro e w' ⟨rfl, rfl⟩
  go_wp2_with fail
  refine (hW.out _).mono ?_
  rintro e W1 ⟨c, rfl, hcl, hcs, hcc, b1⟩
  have hs1 : SCel W1 b k l.length m lo hi := HS.out.keep (gb_below (row := none) b1) (by simp)
  clear c0 c1 hcl hcs
  unfold fv
  have hfd : ∀ W : World, (Instr.field 245 (.agg #[.func (.func 303) #[] #[.pointer (some ⟨c, 0, none⟩)], .func (.func 304) #[] #[]]) 1).run Tryz.prog W = .ok (.func (.func 304) #[] #[]) W := fun _ => by kernel_rfl
  go_wp2_with fail
  clear hfd
  refine (join2_any b _ _ _ _ _ W1 hs1).mono ?_
  rintro e W2 ⟨rfl, rfl⟩
  go_wp2
  go_ret2
  exact ⟨by rw [← HE.out, decide_eq_true HN.out]; rfl, b1⟩
theorem value_count (b : Nat) (l : List Int) (w : World) (h : StP w b 4 l) (hne : l ≠ []) (hl : l.length < 4611686018427387904) :
    Calls Tryz.prog 122 #[.pointer (some ⟨b, 0, none⟩)] w (ValP 4 l w) := by
  obtain ⟨m, lo, hi, hs, hm, hin⟩ := h
  have HS := hid hs
  have hp := List.length_pos_iff.2 hne
  have HE := hid (valK_of hne).2.2.2.1
  have HN := hid hne
  have c1 : w.cell? ⟨b, 1, none⟩ = some (.int .i64 l.length) := by rw [cell_of hs]; rfl
  have c0 : w.cell? ⟨b, 0, none⟩ = some (.int .i64 4) := by rw [cell_of hs]; rfl
  have t1 : ((l.length : Int) == 0) = false := by rw [beq_eq_false_iff_ne]; omega
  clear hs hm hin hne
  go_enter Tryz.func122, Tryz.ntmps122
  go_wp2_with fail
  refine (isnone_any b _ _ _ _ _ _ HS.out (by omega)).mono ?_
  rintro e w' ⟨rfl, rfl⟩
  go_wp2_with fail
  refine (work_count _).mono ?_
  rintro e W1 ⟨rfl, b1⟩
  have hs1 : SCel W1 b 4 l.length m lo hi := HS.out.keep (gb_below (row := none) b1) (by simp)
  clear c0 c1
  unfold fv
  have hfd : ∀ W : World, (Instr.field 245 (.agg #[.func (.func 307) #[] #[], .func (.func 308) #[] #[]]) 1).run Tryz.prog W = .ok (.func (.func 308) #[] #[]) W := fun _ => by kernel_rfl
  go_wp2_with fail
  clear hfd
  refine (count2_any b _ _ _ _ _ W1 hs1).mono ?_
  rintro e W2 ⟨rfl, rfl⟩
  go_wp2
  go_ret2
  exact ⟨by rw [HE.out, decide_eq_true HN.out]; rfl, b1⟩
theorem value_span (b : Nat) (l : List Int) (w : World) (h : StP w b 7 l) (hne : l ≠ []) (hl : l.length < 4611686018427387904) :
    Calls Tryz.prog 122 #[.pointer (some ⟨b, 0, none⟩)] w (ValP 7 l w) := by
  obtain ⟨m, lo, hi, hs, hm, hin⟩ := h
  have HS := hid hs
  have hp := List.length_pos_iff.2 hne
  obtain ⟨el, eh⟩ := (hm hne).2 rfl
  have hmin := minL_is l hne
  have hmax := maxL_is l hne
  have HE := hid (show valK 7 l = if hi - lo ≤ 9223372036854775807 then hi - lo else 9223372036854775807 from by rw [(valK_of hne).2.2.2.2.2.2, el, eh]; rfl)
  have HLO := hid (show in64 lo by rw [el]; exact hin _ hmin.1)
  have HHI := hid (show in64 hi by rw [eh]; exact hin _ hmax.1)
  have HLE := hid (show lo ≤ hi by rw [el, eh]; exact hmin.2 _ hmax.1)
  have HN := hid hne
  have c1 : w.cell? ⟨b, 1, none⟩ = some (.int .i64 l.length) := by rw [cell_of hs]; rfl
  have c0 : w.cell? ⟨b, 0, none⟩ = some (.int .i64 7) := by rw [cell_of hs]; rfl
  have t1 : ((l.length : Int) == 0) = false := by rw [beq_eq_false_iff_ne]; omega
  clear hs hm hin hne hmin hmax el eh
  go_enter Tryz.func122, Tryz.ntmps122
  go_wp2_with fail
  refine (isnone_any b _ _ _ _ _ _ HS.out (by omega)).mono ?_
  rintro e w' ⟨rfl, rfl⟩
  go_wp2_with fail
  refine (work_span _).mono ?_
  rintro e W1 ⟨rfl, b1⟩
  have hs1 : SCel W1 b 7 l.length m lo hi := HS.out.keep (gb_below (row := none) b1) (by simp)
  clear c0 c1
  unfold fv
  have hfd : ∀ W : World, (Instr.field 245 (.agg #[.func (.func 305) #[] #[], .func (.func 306) #[] #[]]) 1).run Tryz.prog W = .ok (.func (.func 306) #[] #[]) W := fun _ => by kernel_rfl
  go_wp2_with fail
  clear hfd
  refine (span2_any b _ _ _ _ _ W1 hs1 HLO.out HHI.out HLE.out).mono ?_
  rintro e W2 ⟨rfl, d2⟩
  have B2 := bel_gbn b1 b1.size (gb_below d2.below)
  generalize (if hi - lo ≤ 9223372036854775807 then hi - lo else 9223372036854775807) = x at *
  go_wp2
  go_ret2
  exact ⟨by rw [HE.out, decide_eq_true HN.out]; rfl, B2⟩
theorem value_st (b : Nat) (k : Int) (l : List Int) (w : World) (hk : kok k) (h : StP w b k l) (hl : l.length < 4611686018427387904) :
    Calls Tryz.prog 122 #[.pointer (some ⟨b, 0, none⟩)] w (ValP k l w) := by
  by_cases hne : l = []
  · subst hne; exact value_empty b k w hk h
  · rcases kinds hk with rfl | rfl | rfl | rfl | rfl | rfl | rfl
    · exact value_join _ 1 (hid work_sum) (by omega) (by omega) (by omega) b l w h hne hl
    · exact value_join _ 2 (hid work_min) (by omega) (by omega) (by omega) b l w h hne hl
    · exact value_join _ 3 (hid work_max) (by omega) (by omega) (by omega) b l w h hne hl
    · exact value_count b l w h hne hl
    · exact value_join _ 5 (hid work_fst) (by omega) (by omega) (by omega) b l w h hne hl
    · exact value_join _ 6 (hid work_lst) (by omega) (by omega) (by omega) b l w h hne hl
    · exact value_span b l w h hne hl
def NewK (k : Int) (w : World) (e : Ending) (w' : World) : Prop :=
  ∃ c, e = .returned (.tuple #[.pointer (some ⟨c, 0, none⟩), .int .i64 0]) ∧ w.heap.size ≤ c ∧ StP w' c k [] ∧ Below w.heap.size w w'
theorem anew_ok (k : Int) (w : World) (hk : kok k) : Calls Tryz.prog 120 #[.int .i64 k] w (NewK k w) := by
  have HK := hid hk
  clear hk
  go_enter Tryz.func120, Tryz.ntmps120
  go_wp2_with fail
  refine (aright_any _ _).mono ?_
  rintro e w' ⟨rfl, rfl⟩
  rw [decide_eq_true HK.out]
  go_wp2
  go_ret2
  exact ⟨_, rfl, Nat.le_refl _, ⟨0, 0, 0, heap_new w _, fun h => absurd rfl h, fun x hx => by cases hx⟩, (Below.refl _ _).alloc (Nat.le_refl _) _⟩
theorem anew_no (k : Int) (w : World) (hk : ¬ kok k) : Calls Tryz.prog 120 #[.int .i64 k] w fun e w' => e = .returned (.tuple #[.pointer none, .int .i64 1]) ∧ w = w' := by
  have HK := hid hk
  clear hk
  go_enter Tryz.func120, Tryz.ntmps120
  go_wp2_with fail
  refine (aright_any _ _).mono ?_
  rintro e w' ⟨rfl, rfl⟩
  rw [decide_eq_false HK.out]
  go_wp2
  go_ret2
  exact ⟨rfl, rfl⟩
end Go.Proofs.YtmifpfojhlmbkaaGreat
