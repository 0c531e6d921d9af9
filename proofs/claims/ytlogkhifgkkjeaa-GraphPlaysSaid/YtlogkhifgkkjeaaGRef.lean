/-
  Contracts of the document's answer for layer 11 that read: Right, ahead, Into, Of, Same; and the law's One, Plain, light.
-/
import Derived.Test.YtlogkhifgkkjeaaGSearch
import Derived.Test.YtlogkhifgkkjeaaCellPair
import Derived.Test.YtlogkhifgkkjeaaGDel
import Derived.Test.YtlogkhifgkkjeaaIRKey
import Derived.Test.YtlogkhifgkkjeaaARName
import Derived.Test.YtlogkhifgkkjeaaARRight
import Derived.Test.YtlogkhifgkkjeaaEHas
namespace Go.Proofs.Ytlogkhifgkkjeaa
open Go.RowKit
set_option linter.unusedVariables false
set_option linter.unusedSimpArgs false

/-- The document's graph: its rules. -/
def RgCell (w : World) (r : Nat) (s : Value) : Prop := w.heap[r]? = some (.cells #[s] 28 (0, 0))
theorem RgCell.c0 {w : World} {r : Nat} {s : Value} (h : RgCell w r s) : w.cell? ⟨r, 0, none⟩ = some s := by rw [cell_of h]; rfl
structure RgAt (w : World) (r : Nat) (a : Option Addr) (n c : Nat) (L : List Ru) : Prop where
  cell : RgCell w r (.slice a n c)
  row : RuAt w a n c L
  ne : ∀ ad, a = some ad → ad.block ≠ r
theorem RgAt.lt {w : World} {r : Nat} {a : Option Addr} {n c : Nat} {L : List Ru} (h : RgAt w r a n c L) : r < w.heap.size := heap_lt h.cell
theorem RgAt.keep {w w' : World} {r : Nat} {a : Option Addr} {n c : Nat} {L : List Ru} (h : RgAt w r a n c L) (k : Below w.heap.size w w') : RgAt w' r a n c L :=
  ⟨(k.block r h.lt).trans h.cell, h.row.keep k, h.ne⟩
theorem RuAt.blt {w : World} {a : Option Addr} {n c : Nat} {L : List Ru} (h : RuAt w a n c L) (hn : 0 < n) {ad : Addr} (e : a = some ad) : ad.block < w.heap.size := by
  rcases h.2.2.2 with h0 | ⟨b, off, e', hlt, _⟩
  · omega
  · rw [e] at e'; cases e'; exact hlt

set_option maxHeartbeats 1000000 in
theorem rright11_any (r : Ru) (w : World) : Calls Try.prog 28 #[ruV r] w fun e w' => e = .returned (.bool (decide (rightU r))) ∧ Below w.heap.size w w' := by
  obtain ⟨s, d, k, n, a⟩ := r
  unfold ruV
  show Calls Try.prog 28 #[.agg #[.string (bs s), .string (bs d), .int .i64 k, .int .i64 n, .int .i64 a]] w _
  have hne : ((bs s).toList == (bs d).toList) = decide (s = d) := eq_bs s d
  have X := BoxU.new 38 w ⟨s, d, k, n, a⟩
  have x0 := X.x0
  have x1 := X.x1
  have x2 := X.x2
  have x3 := X.x3
  have x4 := X.x4
  have HB := Lib.hid ((Below.refl w.heap.size w).alloc (Nat.le_refl _) (.cells #[.string (bs s), .string (bs d), .int .i64 k, .int .i64 n, .int .i64 a] 38))
  have HX := Lib.hid X
  simp only at x0 x1 x2 x3 x4
  have HS := Lib.hid (fun W => rkey_any s W)
  have HD := Lib.hid (fun W => rkey_any d W)
  have HK := Lib.hid (fun W => arname_any k W)
  have HC := Lib.hid (fun W => rrightB_any n a W)
  have hnm : ((nmA k).toList = []) = ¬ kok k := propext (nmA_empty k)
  have hnm2 : (nmA k).toList.isEmpty = !decide (kok k) := by
    rw [Bool.eq_iff_iff, List.isEmpty_iff, nmA_empty]; simp
  have HE := Lib.hid (show decide (rightU ⟨s, d, k, n, a⟩) = (decide (keyB s) && (decide (keyB d) && (!decide (s = d) && (decide (kok k) && decide (rightB n a))))) from by
    rw [← decide_not, ← Bool.decide_and, ← Bool.decide_and, ← Bool.decide_and, ← Bool.decide_and]; rfl)
  clear X
  generalize nmA k = nm at *
  generalize decide (rightU ⟨s, d, k, n, a⟩) = b at *
  generalize decide (keyB s) = b1 at *
  generalize decide (keyB d) = b2 at *
  generalize decide (s = d) = b3 at *
  generalize decide (rightB n a) = b5 at *
  cases b1
  · go_enter Try.func28, Try.ntmps28
    go_wp2_with fail
    refine (HS.out _).mono ?_; rintro e w' ⟨rfl, rfl⟩
    go_wp2
    go_ret
    exact ⟨ret_bool HE.out.symm, HB.out⟩
  cases b2
  · go_enter Try.func28, Try.ntmps28
    go_wp2_with fail
    refine (HS.out _).mono ?_; rintro e w' ⟨rfl, rfl⟩
    go_wp2_with fail
    refine (HD.out _).mono ?_; rintro e w' ⟨rfl, rfl⟩
    go_wp2
    go_ret
    exact ⟨ret_bool HE.out.symm, HB.out⟩
  cases b3
  · by_cases hk : kok k
    · have hk1 : ¬ nm.toList = [] := by rw [hnm]; simpa using hk
      rw [decide_eq_true hk] at hnm2 HE
      clear hk hnm
      go_enter Try.func28, Try.ntmps28
      go_wp2_with fail
      refine (HS.out _).mono ?_; rintro e w' ⟨rfl, rfl⟩
      go_wp2_with fail
      refine (HD.out _).mono ?_; rintro e w' ⟨rfl, rfl⟩
      go_wp2_with fail
      refine (HK.out _).mono ?_; rintro e w2 ⟨rfl, b2'⟩
      have HX2 := HX.out.keep b2'
      have y3 := HX2.x3
      have y4 := HX2.x4
      simp only at y3 y4
      have HB2 := Lib.hid (HB.out.trans (b2'.mono HB.out.size))
      clear HX2 b2'
      go_wp2_with fail
      refine (HC.out _).mono ?_; rintro e w' ⟨rfl, rfl⟩
      go_wp2
      go_ret
      exact ⟨ret_bool (by rw [HE.out]; rfl), HB2.out⟩
    · have hk1 : nm.toList = [] := by rw [hnm]; exact hk
      rw [decide_eq_false hk] at hnm2 HE
      clear hk hnm
      go_enter Try.func28, Try.ntmps28
      go_wp2_with fail
      refine (HS.out _).mono ?_; rintro e w' ⟨rfl, rfl⟩
      go_wp2_with fail
      refine (HD.out _).mono ?_; rintro e w' ⟨rfl, rfl⟩
      go_wp2_with fail
      refine (HK.out _).mono ?_; rintro e w2 ⟨rfl, b2'⟩
      have HB2 := Lib.hid (HB.out.trans (b2'.mono HB.out.size))
      clear b2'
      go_wp2
      go_ret
      exact ⟨ret_bool HE.out.symm, HB2.out⟩
  · go_enter Try.func28, Try.ntmps28
    go_wp2_with fail
    refine (HS.out _).mono ?_; rintro e w' ⟨rfl, rfl⟩
    go_wp2_with fail
    refine (HD.out _).mono ?_; rintro e w' ⟨rfl, rfl⟩
    go_wp2
    go_ret
    exact ⟨ret_bool HE.out.symm, HB.out⟩

set_option maxHeartbeats 1000000 in
theorem rah_any (x y : Ru) (w : World) (h1 : x.src.length ≤ 9223372036854775807) (h2 : x.dst.length ≤ 9223372036854775807) (h3 : y.src.length ≤ 9223372036854775807) (h4 : y.dst.length ≤ 9223372036854775807) :
    Calls Try.prog 33 #[ruV x, ruV y] w fun e w' => e = .returned (.bool (decide (ahU x y))) ∧ Below w.heap.size w w' := by
  obtain ⟨s, d, k, n, a⟩ := x
  obtain ⟨s', d', k', n', a'⟩ := y
  simp only at h1 h2 h3 h4
  unfold ruV
  show Calls Try.prog 33 #[.agg #[.string (bs s), .string (bs d), .int .i64 k, .int .i64 n, .int .i64 a], .agg #[.string (bs s'), .string (bs d'), .int .i64 k', .int .i64 n', .int .i64 a']] w _
  have hne : ((bs s).toList == (bs s').toList) = decide (s = s') := eq_bs s s'
  have B1 := (Below.refl w.heap.size w).alloc (Nat.le_refl _) (.cells #[.string (bs s), .string (bs d), .int .i64 k, .int .i64 n, .int .i64 a] 38)
  have B2 := (Below.refl (w.alloc (.cells #[.string (bs s), .string (bs d), .int .i64 k, .int .i64 n, .int .i64 a] 38)).heap.size (w.alloc (.cells #[.string (bs s), .string (bs d), .int .i64 k, .int .i64 n, .int .i64 a] 38))).alloc (Nat.le_refl _) (.cells #[.string (bs s'), .string (bs d'), .int .i64 k', .int .i64 n', .int .i64 a'] 38)
  have X := (BoxU.new 38 w ⟨s, d, k, n, a⟩).keep B2
  have Y := BoxU.new 38 (w.alloc (.cells #[.string (bs s), .string (bs d), .int .i64 k, .int .i64 n, .int .i64 a] 38)) ⟨s', d', k', n', a'⟩
  rw [World.size_alloc] at Y
  have x0 := X.x0
  have x1 := X.x1
  have y0 := Y.x0
  have y1 := Y.x1
  simp only at x0 x1 y0 y1
  have HB := Lib.hid (B1.trans (B2.mono B1.size))
  have HS := Lib.hid (fun W => rbelow_any s s' W h1 h3)
  have HD := Lib.hid (fun W => rbelow_any d d' W h2 h4)
  have E1 := Lib.hid (show s = s' → decide (ahU ⟨s, d, k, n, a⟩ ⟨s', d', k', n', a'⟩) = decide (d < d') from fun e => decide_eq_decide.2 (ahU_same e))
  have E2 := Lib.hid (show s ≠ s' → decide (ahU ⟨s, d, k, n, a⟩ ⟨s', d', k', n', a'⟩) = decide (s < s') from fun e => decide_eq_decide.2 (ahU_ne e))
  clear X Y B1 B2
  generalize decide (ahU ⟨s, d, k, n, a⟩ ⟨s', d', k', n', a'⟩) = b at *
  generalize decide (d < d') = b1 at *
  generalize decide (s < s') = b2 at *
  by_cases he : s = s'
  · have E := Lib.hid (E1.out he)
    rw [decide_eq_true he] at hne
    clear he E1 E2
    go_enter Try.func33, Try.ntmps33
    go_wp2_with fail
    refine (HD.out _).mono ?_
    rintro e w2 ⟨rfl, hd⟩
    have HB2 := Lib.hid (HB.out.trans (hd.bel.mono HB.out.size))
    go_wp2
    go_ret
    exact ⟨ret_bool E.out.symm, HB2.out⟩
  · have E := Lib.hid (E2.out he)
    rw [decide_eq_false he] at hne
    clear he E1 E2
    go_enter Try.func33, Try.ntmps33
    go_wp2_with fail
    refine (HS.out _).mono ?_
    rintro e w2 ⟨rfl, hd⟩
    have HB2 := Lib.hid (HB.out.trans (hd.bel.mono HB.out.size))
    go_wp2
    go_ret
    exact ⟨ret_bool E.out.symm, HB2.out⟩

/-! The law's One, light. -/
theorem one_any (r : Ru) (w : World) : Calls Try.prog 14 #[ruV r] w fun e w' => e = .returned (ruV r) ∧ Below w.heap.size w w' := by
  have B1 := (Below.refl w.heap.size w).alloc (Nat.le_refl _) (.cells #[.string (bs r.src), .string (bs r.dst), .int .i64 r.kind, .int .i64 r.size, .int .i64 r.align] 31)
  have X := BoxU.new 31 w r
  have hs1 : (w.alloc (.cells #[.string (bs r.src), .string (bs r.dst), .int .i64 r.kind, .int .i64 r.size, .int .i64 r.align] 31)).heap.size = w.heap.size + 1 := World.size_alloc ..
  have B2 := (Below.refl (w.alloc (.cells #[.string (bs r.src), .string (bs r.dst), .int .i64 r.kind, .int .i64 r.size, .int .i64 r.align] 31)).heap.size (w.alloc (.cells #[.string (bs r.src), .string (bs r.dst), .int .i64 r.kind, .int .i64 r.size, .int .i64 r.align] 31))).alloc (Nat.le_refl _) (.cells #[.string (bs r.src), .string (bs r.dst), .int .i64 r.kind, .int .i64 r.size, .int .i64 r.align] 38)
  have Y : BoxU 38 ((w.alloc (.cells #[.string (bs r.src), .string (bs r.dst), .int .i64 r.kind, .int .i64 r.size, .int .i64 r.align] 31)).alloc (.cells #[.string (bs r.src), .string (bs r.dst), .int .i64 r.kind, .int .i64 r.size, .int .i64 r.align] 38)) (w.heap.size + 1) r := by
    rw [← hs1]; exact BoxU.new _ _ r
  have HB := Lib.hid (B1.trans (B2.mono B1.size))
  have HY := Lib.hid Y
  clear hs1 B1 B2 Y
  have x0 := X.x0
  have x1 := X.x1
  have x2 := X.x2
  have x3 := X.x3
  have x4 := X.x4
  clear X
  unfold ruV
  go_enter Try.func14, Try.ntmps14
  go_wp2
  refine bodyPost_ret (results_cell_row rfl _ _ _ _ _ _ _ rfl HY.out Try.underlying38 rfl (by kernel_rfl)) rfl ?_
  exact ⟨rfl, HB.out⟩

def lightU (r : Ru) : Prop := r.src.length ≤ 100 ∧ r.dst.length ≤ 100
instance (r : Ru) : Decidable (lightU r) := inferInstanceAs (Decidable (_ ∧ _))
theorem light11_any (r : Ru) (w : World) : Calls Try.prog 11 #[ruV r] w fun e w' => e = .returned (.bool (decide (lightU r))) ∧ Below w.heap.size w w' := by
  have HB := Lib.hid ((Below.refl w.heap.size w).alloc (Nat.le_refl _) (.cells #[.string (bs r.src), .string (bs r.dst), .int .i64 r.kind, .int .i64 r.size, .int .i64 r.align] 31))
  have X := BoxU.new 31 w r
  have x0 := X.x0
  have x1 := X.x1
  have hs := bs_size r.src
  have hd := bs_size r.dst
  clear X
  unfold ruV
  by_cases h1 : r.src.length ≤ 100
  · have h1z : decide (((bs r.src).size : Int) ≤ 100) = true := decide_eq_true (by omega)
    by_cases h2 : r.dst.length ≤ 100
    · have h2z : decide (((bs r.dst).size : Int) ≤ 100) = true := decide_eq_true (by omega)
      have E := Lib.hid (show decide (lightU r) = true from decide_eq_true ⟨h1, h2⟩)
      clear h1 h2 hs hd
      go_enter Try.func11, Try.ntmps11
      go_wp2
      go_ret
      exact ⟨ret_bool (by rw [E.out]), HB.out⟩
    · have h2z : decide (((bs r.dst).size : Int) ≤ 100) = false := decide_eq_false (by omega)
      have E := Lib.hid (show decide (lightU r) = false from decide_eq_false (fun h => h2 h.2))
      clear h1 h2 hs hd
      go_enter Try.func11, Try.ntmps11
      go_wp2
      go_ret
      exact ⟨ret_bool (by rw [E.out]), HB.out⟩
  · have h1z : decide (((bs r.src).size : Int) ≤ 100) = false := decide_eq_false (by omega)
    have E := Lib.hid (show decide (lightU r) = false from decide_eq_false (fun h => h1 h.1))
    clear h1 hs hd
    go_enter Try.func11, Try.ntmps11
    go_wp2
    go_ret
    exact ⟨ret_bool (by rw [E.out]), HB.out⟩

/-! Same. -/
theorem same_step {a b : List Ru} {j : Nat} (h1 : j < a.length) (h2 : j < b.length) (h : a.take j = b.take j) (e : uA a j = uA b j) : a.take (j + 1) = b.take (j + 1) := by
  rw [take_snoc_u h1, take_snoc_u h2, h, e]
set_option maxRecDepth 100000 in
set_option maxHeartbeats 2000000 in
theorem same11_any (a1 a2 : Option Addr) (n1 n2 c1 c2 : Nat) (x y : List Ru) (w : World) (hx : RuAt w a1 n1 c1 x) (hy : RuAt w a2 n2 c2 y) :
    Calls Try.prog 22 #[.slice a1 n1 c1, .slice a2 n2 c2] w fun e w' => e = .returned (.bool (decide (x = y))) ∧ Below w.heap.size w w' := by
  have HX := Lib.hid hx
  have HY := Lib.hid hy
  have L1 := Lib.hid hx.1
  have L2 := Lib.hid hy.1
  have hm1 := hx.2.2.1
  have hm2 := hy.2.2.1
  clear hx hy
  by_cases hn : n1 = n2
  · subst hn
    have hnn : ((n1 : Int) != (n1 : Int)) = false := by simp
    go_enter Try.func22, Try.ntmps22
    go_wp2
    go_loopw [5] (fun i wr => ∃ j : Nat, j ≤ n1 ∧ i = .int .i64 (j : Int) ∧ Hid (x.take j = y.take j) ∧ Drew w wr) (fun i _ => n1 - (intOf i).toNat)
    case atStart => exact ⟨0, Nat.zero_le _, rfl, Lib.hid (by simp), 0, rfl⟩
    case round =>
      obtain ⟨j, hj, rfl, HT, hd⟩ := hrel
      by_cases hjn : j < n1
      · have hjz : (j : Int) < (n1 : Int) := by omega
        have hj0 : (0 : Int) ≤ (j : Int) := by omega
        obtain ⟨p, o, rfl, hp, x0, x1, x2, x3, x4⟩ := (HX.out.keep hd.bel).at_ j hjn
        obtain ⟨q, o', rfl, hq, y0, y1, y2, y3, y4⟩ := (HY.out.keep hd.bel).at_ j hjn
        have HS := Lib.hid (fun e => same_step (a := x) (b := y) (j := j) (by rw [L1.out]; exact hjn) (by rw [L2.out]; exact hjn) HT.out e)
        have HNO := Lib.hid (show uA x j ≠ uA y j → x ≠ y from fun h e => h (by rw [e]))
        have heq := fun W => run_ne_du W (uA x j) (uA y j)
        unfold ruV at heq
        generalize uA x j = u at *
        generalize uA y j = v at *
        by_cases he : u = v
        · have HS2 := Lib.hid (HS.out he)
          rw [decide_eq_true he] at heq
          clear HS HNO he HT
          go_wp2_with fail
          go_quiet (fail)
          go_wp2
          go_roundw
          case rel => exact ⟨j + 1, by omega, by go_num, HS2, hd.trans ⟨_, rfl⟩⟩
          case measure => simp [intOf]; omega
        · have HN := Lib.hid (HNO.out he)
          rw [decide_eq_false he] at heq
          clear HS HNO he HT
          go_wp2_with fail
          go_quiet (fail)
          go_wp2
          go_ret
          exact ⟨ret_bool (decide_eq_false HN.out).symm, (hd.trans ⟨_, rfl⟩ : Drew w _).bel⟩
      · have hjz : ¬ (j : Int) < (n1 : Int) := by omega
        obtain rfl : j = n1 := by omega
        have HE := Lib.hid (show x = y from by
          have h := HT.out
          rwa [List.take_of_length_le (by rw [L1.out]; exact Nat.le_refl _), List.take_of_length_le (by rw [L2.out]; exact Nat.le_refl _)] at h)
        go_wp2
        go_ret
        exact ⟨ret_bool (decide_eq_true HE.out).symm, hd.bel⟩
  · have hnn : ((n1 : Int) != (n2 : Int)) = true := by rw [bne_iff_ne]; omega
    have hnz : ¬ (n1 : Int) = (n2 : Int) := by omega
    have HE := Lib.hid (show decide (x = y) = false from decide_eq_false (fun e => hn (by rw [← L1.out, ← L2.out, e])))
    go_enter Try.func22, Try.ntmps22
    go_wp2
    go_ret
    exact ⟨ret_bool HE.out.symm, Below.refl _ _⟩

end Go.Proofs.Ytlogkhifgkkjeaa
