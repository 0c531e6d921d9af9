/-
  Contract of slices.Reverse of a row of samples of the call's own.
-/
import Derived.Test.YtpahohnpcfgegaaSamp
import Derived.BigRegion
namespace Go.Proofs.Ytpahohnpcfgegaa
open Go.RowKit
set_option linter.unusedVariables false
set_option linter.unusedSimpArgs false

/-- The p-th of n samples, when the first i and the last i ones have been exchanged. -/
def mixF (z : List (Int × Int)) (n i p : Nat) : Int × Int := if p < i ∨ n ≤ p + i then z.getD (n - 1 - p) (0, 0) else z.getD p (0, 0)
/-- The row's block. -/
def RevI (g cap n : Nat) (f : Nat → Int × Int) (w wr : World) : Prop :=
  ∃ cur, wr.heap[g]? = some (.cells cur 27 (0, 0)) ∧ cur.size = cap * 2 ∧ (∀ p, p < n → cur[p * 2]? = some (.int .i64 (f p).1) ∧ cur[p * 2 + 1]? = some (.int .i64 (f p).2)) ∧ w.grownBy wr (some g)
theorem cells_of_rows {cur : Array Value} {z : List (Int × Int)} {n : Nat} (hz : z.length = n) (hn : n * 2 ≤ cur.size) (h : ∀ p, p < n → cur[p * 2]? = some (.int .i64 (z.getD p (0, 0)).1) ∧ cur[p * 2 + 1]? = some (.int .i64 (z.getD p (0, 0)).2)) : cur.toList.take (n * 2) = smpCells z := by
  apply List.ext_getElem?
  intro i
  by_cases hi : i < n * 2
  · rw [List.getElem?_take, if_pos hi, Array.getElem?_toList]
    obtain ⟨p, hp⟩ : ∃ p, i = p * 2 ∨ i = p * 2 + 1 := ⟨i / 2, by omega⟩
    have hpn : p < n := by omega
    obtain ⟨c0, c1⟩ := h p hpn
    obtain ⟨d0, d1⟩ := smpCells_get z p (by omega)
    have e : z[p] = z.getD p (0, 0) := by rw [List.getD_eq_getElem?_getD, List.getElem?_eq_getElem (by omega)]; rfl
    rw [e] at d0 d1
    rcases hp with rfl | rfl
    · rw [c0, d0]
    · rw [c1, d1]
  · rw [List.getElem?_take, if_neg hi, List.getElem?_eq_none (by rw [smpCells_length]; omega)]
theorem rows_of_cells {cur : Array Value} {z : List (Int × Int)} {n : Nat} (hz : z.length = n) (h : cur.toList.take (n * 2) = smpCells z) (p : Nat) (hp : p < n) : cur[p * 2]? = some (.int .i64 (z.getD p (0, 0)).1) ∧ cur[p * 2 + 1]? = some (.int .i64 (z.getD p (0, 0)).2) := by
  obtain ⟨d0, d1⟩ := smpCells_get z p (by omega)
  have e : z[p] = z.getD p (0, 0) := by rw [List.getD_eq_getElem?_getD, List.getElem?_eq_getElem (by omega)]; rfl
  rw [e, ← h, List.getElem?_take, if_pos (by omega), Array.getElem?_toList] at d0 d1
  exact ⟨d0, d1⟩
theorem mix_end {z : List (Int × Int)} {n i : Nat} (hz : z.length = n) (h : n ≤ 2 * i + 1) (p : Nat) (hp : p < n) : mixF z n i p = z.reverse.getD p (0, 0) := by
  have e : z.reverse.getD p (0, 0) = z.getD (n - 1 - p) (0, 0) := by
    rw [List.getD_eq_getElem?_getD, List.getD_eq_getElem?_getD, List.getElem?_reverse (by omega), hz]
  unfold mixF
  split
  · exact e.symm
  · rw [e]
    have : p = n - 1 - p := by omega
    rw [← this]
theorem revI_step {g cap n : Nat} {z : List (Int × Int)} {i j : Nat} {w wr : World} (h : RevI g cap n (mixF z n i) w wr) (hij : i < j) (hj : i + j + 1 = n) :
    RevI g cap n (mixF z n (i + 1)) w ((((wr.setCell ⟨g, i * 2, none⟩ (.int .i64 (mixF z n i j).1)).setCell ⟨g, i * 2 + 1, none⟩ (.int .i64 (mixF z n i j).2)).setCell ⟨g, j * 2, none⟩ (.int .i64 (mixF z n i i).1)).setCell ⟨g, j * 2 + 1, none⟩ (.int .i64 (mixF z n i i).2)) := by
  obtain ⟨cur, hc, hs, hf, hg⟩ := h
  have mj : mixF z n (i + 1) i = mixF z n i j := by
    unfold mixF
    rw [if_pos (by omega), if_neg (by omega)]
    rw [show n - 1 - i = j from by omega]
  have mi : mixF z n (i + 1) j = mixF z n i i := by
    unfold mixF
    rw [if_pos (by omega), if_neg (by omega)]
    rw [show n - 1 - j = i from by omega]
  have mo : ∀ p, p ≠ i → p ≠ j → mixF z n (i + 1) p = mixF z n i p := by
    intro p h1 h2
    unfold mixF
    by_cases h : p < i ∨ n ≤ p + i
    · rw [if_pos h, if_pos (by omega)]
    · rw [if_neg h, if_neg (by omega)]
  have szn : n * 2 ≤ cur.size := by
    have := (Array.getElem?_eq_some_iff.1 (hf (n - 1) (by omega)).2).1
    omega
  refine ⟨_, heap_set (heap_set (heap_set (heap_set hc))), by simp; exact hs, fun p hp => ?_, gb_set (gb_set (gb_set (gb_set hg _ _) _ _) _ _) _ _⟩
  obtain ⟨c0, c1⟩ := hf p hp
  by_cases h1 : p = i
  · subst h1
    rw [mj]
    refine ⟨?_, ?_⟩ <;> simp only [Array.getElem?_setIfInBounds, Array.size_setIfInBounds] <;> (repeat' split) <;> first | rfl | (exfalso; omega) | (exfalso; simp at *; done) | (exfalso; contradiction) | (exfalso; rename_i hT; exact hT trivial) | (exfalso; rename_i hT _; exact hT trivial) | (exfalso; rename_i hT _ _; exact hT trivial)| (exfalso; rename_i hT _ _ _; exact hT trivial)
  · by_cases h2 : p = j
    · subst h2
      rw [mi]
      refine ⟨?_, ?_⟩ <;> simp only [Array.getElem?_setIfInBounds, Array.size_setIfInBounds] <;> (repeat' split) <;> first | rfl | (exfalso; omega) | (exfalso; simp at *; done) | (exfalso; contradiction) | (exfalso; rename_i hT; exact hT trivial) | (exfalso; rename_i hT _; exact hT trivial) | (exfalso; rename_i hT _ _; exact hT trivial)| (exfalso; rename_i hT _ _ _; exact hT trivial)
    · rw [mo p h1 h2]
      refine ⟨?_, ?_⟩ <;> simp only [Array.getElem?_setIfInBounds, Array.size_setIfInBounds] <;> rw [if_neg (by omega), if_neg (by omega), if_neg (by omega), if_neg (by omega)] <;> assumption

set_option maxRecDepth 100000 in
set_option maxHeartbeats 4000000 in
theorem reverse_any (base : Nat) (v : Value) (n : Nat) (z : List (Int × Int)) (w : World) (h : w.ownsRow base 27 2 v n (smpCells z)) (hz : z.length = n) (hn : n ≤ 1048576) :
    Calls Try.prog 23 #[v] w fun e w' => e = .returned (.tuple #[]) ∧ w'.ownsRow base 27 2 v n (smpCells z.reverse) ∧ w.grownBy w' v.ownBlock := by
  rcases h.2 with ⟨rfl, h0⟩ | ⟨g, cap, cur, rfl, hgb, hgc, hl, hcm, hsz, htk⟩
  · subst h0
    have e : z = [] := List.eq_nil_of_length_eq_zero hz
    subst e
    have HH := Lib.hid h
    clear h
    go_enter Try.func23, Try.ntmps23
    go_wp2
    go_loopw [2, 3] (fun i j wr => i = .int .i64 0 ∧ j = .int .i64 (-1) ∧ w = wr) (fun _ _ _ => 0)
    case atStart => exact ⟨rfl, rfl, rfl⟩
    case round =>
      obtain ⟨rfl, rfl, rfl⟩ := hrel
      go_wp2
      go_end0
      exact ⟨rfl, HH.out, gb_refl _ _⟩
  · have HI := Lib.hid (show RevI g cap n (mixF z n 0) w w from ⟨cur, hgc, hsz, fun p hp => by
      have e : mixF z n 0 p = z.getD p (0, 0) := by unfold mixF; rw [if_neg (by omega)]
      rw [e]
      exact rows_of_cells hz htk p hp, gb_refl _ _⟩)
    have HZ := Lib.hid hz
    have HX := Lib.hid (show n ≤ cap ∧ cap ≤ maxLen ∧ base ≤ g from ⟨hl, hcm, hgb⟩)
    clear h hgc hsz htk hz hcm
    go_enter Try.func23, Try.ntmps23
    go_wp2
    go_loopw [2, 3] (fun a b wr => ∃ i : Nat, a = .int .i64 (i : Int) ∧ b = .int .i64 ((n : Int) - 1 - (i : Int)) ∧ i ≤ n ∧ Hid (RevI g cap n (mixF z n i) w wr)) (fun a _ _ => n - (intOf a).toNat)
    case atStart => exact ⟨0, rfl, by go_num, Nat.zero_le _, HI⟩
    case round =>
      obtain ⟨i, rfl, rfl, hi, HR⟩ := hrel
      by_cases hij : 2 * i + 1 < n
      · obtain ⟨j, hj⟩ : ∃ j, i + j + 1 = n := ⟨n - 1 - i, by omega⟩
        have hjz : (n : Int) - 1 - (i : Int) = (j : Int) := by omega
        rw [hjz]
        have hlt : (i : Int) < (j : Int) := by omega
        have hin : (i : Int) < (n : Int) := by omega
        have hjn : (j : Int) < (n : Int) := by omega
        have HN := Lib.hid (revI_step HR.out (show i < j by omega) hj)
        obtain ⟨cr, hcr, hcs, hcf, _⟩ := HR.out
        obtain ⟨x0, x1⟩ := hcf i (by omega)
        obtain ⟨y0, y1⟩ := hcf j (by omega)
        have hin2 : i * 2 + 1 < cr.size := (Array.getElem?_eq_some_iff.1 x1).1
        have hjn2 : j * 2 + 1 < cr.size := (Array.getElem?_eq_some_iff.1 y1).1
        rw [← cell_of hcr] at x0 x1 y0 y1
        have z0 : wr.frozen? ⟨g, i * 2, none⟩ = false := frozen_of hcr
        have z1 : wr.frozen? ⟨g, i * 2 + 1, none⟩ = false := frozen_of hcr
        have z2 : wr.frozen? ⟨g, j * 2, none⟩ = false := frozen_of hcr
        have z3 : wr.frozen? ⟨g, j * 2 + 1, none⟩ = false := frozen_of hcr
        generalize mixF z n i i = X at *
        generalize mixF z n i j = Y at *
        clear hcf hjz
        go_wp2_with fail
        go_big_region
        all_goals go_wp2
        go_roundw
        case rel =>
          refine ⟨i + 1, by go_num, by congr 1; omega, by omega, Lib.hid ?_⟩
          obtain ⟨cc, h1, h2, h3, h4⟩ := HN.out
          exact ⟨cc, h1, h2, h3, gb_drew h4⟩
        case measure => simp [intOf]; omega
      · have hlt : ¬ (i : Int) < (n : Int) - 1 - (i : Int) := by omega
        have HE := Lib.hid (show wr.ownsRow base 27 2 (.slice (some ⟨g, 0, none⟩) n cap) n (smpCells z.reverse) ∧ w.grownBy wr (some g) from by
          obtain ⟨cr, hcr, hcs, hcf, hgr⟩ := HR.out
          obtain ⟨x1, x2, x3⟩ := HX.out
          refine ⟨⟨by rw [smpCells_length, List.length_reverse, HZ.out], .inr ⟨g, cap, cr, rfl, x3, hcr, x1, x2, hcs, ?_⟩⟩, hgr⟩
          refine cells_of_rows (by rw [List.length_reverse]; exact HZ.out) (by omega) (fun p hp => ?_)
          rw [← mix_end (i := i) HZ.out (by omega) p hp]
          exact hcf p hp)
        go_wp2
        go_end0
        exact ⟨rfl, HE.out.1, HE.out.2⟩

end Go.Proofs.Ytpahohnpcfgegaa
