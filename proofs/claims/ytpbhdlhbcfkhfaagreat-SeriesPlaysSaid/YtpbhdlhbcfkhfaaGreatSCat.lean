/-
  Contracts of slices.Grow of a nil list, and of slices.Concat, for pointers to chunks.
-/
import Derived.Test.YtpbhdlhbcfkhfaaGreatSApp
import Derived.Lib.AppendZerosOnto
namespace Go.Proofs.YtpbhdlhbcfkhfaaGreat
open Go.RowKit
set_option linter.unusedVariables false
set_option linter.unusedSimpArgs false

/-- A row of the call's own. -/
def RowP (bs : List Nat) (w : World) (e : Ending) (w' : World) : Prop := ∃ v, e = .returned v ∧ PRow w' w.heap.size v bs ∧ Below w.heap.size w w'

set_option maxHeartbeats 1000000 in
theorem grow_any (n : Nat) (w : World) (hn : n ≤ 1048576) :
    Calls Tryz.prog 78 #[.slice none 0 0, .int .i64 (n : Int)] w (RowP [] w) := by
  have h1 : ¬ ((n : Int) < 0) := by omega
  by_cases h0 : n = 0
  · subst h0
    go_enter Tryz.func78, Tryz.ntmps78
    go_wp2
    go_ret
    exact ⟨_, rfl, PRow.nil w _, Below.refl _ _⟩
  · have h4 : (n : Int) > 0 := by omega
    obtain ⟨i0, hi, hz0, hz1, hz2⟩ := info_parts info_ptr
    have hrz : ∀ ty, (Builtin.append_ #[50, 3] ty #[.slice none 0 0, .int .i64 (n : Int)]).run Tryz.prog w =
        .ok (.slice (some ⟨w.heap.size, 0, none⟩) n (grownCap w n 0 46)) (w.drew.alloc (.cells (([] : List Value).toArray ++ Builtin.zeroCells (Value.pointer none).cells n ++ Builtin.zeroCells (Value.pointer none).cells (grownCap w n 0 46 - n)) 46)) := fun ty => by
      have h := Lib.run_append_grow_zeros w 50 3 ty 46 i0 _ .i64 .i64 Tryz.underlying50 Tryz.underlying3 hi hz0 none 0 0 [] (run_firstCells_none w.drew i0.size 0 0 0) n (by omega) (by omega) (by omega) (by omega) (by rw [hz2]; omega) (by rw [hz2]; exact growslice_fits (by omega) (by omega))
      rw [Nat.zero_add] at h
      exact h
    have hGn := grownCap_ge w n 0 46
    have hGm := grownCap_le_maxLen w n 0 46 (by unfold maxLen; omega)
    obtain ⟨G, hG⟩ : ∃ G, grownCap w n 0 46 = G := ⟨_, rfl⟩
    rw [hG] at hrz hGn hGm
    obtain ⟨ROW, hROW⟩ : ∃ ROW : Array Value, ([] : List Value).toArray ++ Builtin.zeroCells (Value.pointer none).cells n ++ Builtin.zeroCells (Value.pointer none).cells (G - n) = ROW := ⟨_, rfl⟩
    have hsz : ROW.size = G * 1 := by
      rw [← hROW]
      simp [Builtin.zeroCells, Value.cells]
      omega
    rw [hROW] at hrz
    have HR := Lib.hid (show PRow (w.drew.alloc (.cells ROW 46)) w.heap.size (.slice (some ⟨w.heap.size, 0, none⟩) 0 G) [] from ⟨rfl, .inr ⟨w.heap.size, G, ROW, rfl, Nat.le_refl _, heap_new w.drew _, Nat.zero_le _, hGm, hsz, by simp⟩⟩)
    have HB := Lib.hid (show Below w.heap.size w (w.drew.alloc (.cells ROW 46)) from ((Below.refl w.heap.size w).drew).alloc (Nat.le_refl _) _)
    have hG63 : G ≤ 9223372036854775807 := by unfold maxLen at hGm; omega
    clear hG hROW hsz hi hz0 hz1 hz2 hGm
    go_enter Tryz.func78, Tryz.ntmps78
    go_wp2_with (at_builtin; refine Lib.wpList_append_run _ rfl _ _ _ _ rfl _ _ rfl rfl _ _ (hrz _) ?_)
    all_goals go_ret
    exact ⟨_, rfl, HR.out, HB.out⟩

/-- Rows of pointers lie in a row, one behind the other. -/
def PParts (w : World) (pb : Nat) (Z : List (List Nat)) (A : Nat → Option Addr) (C : Nat → Nat) : Prop :=
  ∀ i, i < Z.length → w.cell? ⟨pb, i, none⟩ = some (.slice (A i) (Z.getD i []).length (C i)) ∧ Ptrs w (A i) (Z.getD i []).length (C i) (Z.getD i [])
def sumB (Z : List (List Nat)) (i : Nat) : Nat := (Z.take i).flatten.length
theorem take_flatB (Z : List (List Nat)) (i : Nat) (h : i < Z.length) : (Z.take (i + 1)).flatten = (Z.take i).flatten ++ Z.getD i [] := by
  rw [List.take_succ_eq_append_getElem h, List.flatten_append]
  simp [List.getD_eq_getElem?_getD, List.getElem?_eq_getElem h]
theorem sumB_succ (Z : List (List Nat)) (i : Nat) (h : i < Z.length) : sumB Z (i + 1) = sumB Z i + (Z.getD i []).length := by
  unfold sumB; rw [take_flatB Z i h, List.length_append]
theorem sumB_le (Z : List (List Nat)) (i : Nat) : sumB Z i ≤ Z.flatten.length := by
  unfold sumB
  conv => rhs; rw [← List.take_append_drop i Z, List.flatten_append, List.length_append]
  omega

set_option maxRecDepth 100000 in
set_option maxHeartbeats 1000000 in
theorem concat_any (pb : Nat) (Z : List (List Nat)) (A : Nat → Option Addr) (C : Nat → Nat) (n : Nat) (w : World) (hn : Z.length = n) (hp : PParts w pb Z A C) (hpb : pb < w.heap.size) (hs : Z.flatten.length ≤ 1048576) (hn8 : n ≤ 8) :
    Calls Tryz.prog 61 #[.slice (some ⟨pb, 0, none⟩) n n] w (RowP Z.flatten w) := by
  have HP := Lib.hid hp
  have HN := Lib.hid hn
  clear hp hn
  have HALL := Lib.hid (show sumB Z Z.length = Z.flatten.length from by unfold sumB; rw [List.take_length])
  rw [HN.out] at HALL
  have HLE := Lib.hid (sumB_le Z)
  go_enter Tryz.func61, Tryz.ntmps61
  go_wp2_with fail
  go_loop [3, 11] (fun m i => ∃ j : Nat, j ≤ n ∧ i = .int .i64 (j : Int) ∧ m = .int .i64 (sumB Z j : Int)) (fun _ i => n - (intOf i).toNat)
  case atStart => exact ⟨0, Nat.zero_le _, rfl, by simp [sumB]⟩
  case round =>
    obtain ⟨j, hj, rfl, rfl⟩ := hrel
    by_cases hjn : j < n
    · obtain ⟨c, _⟩ := HP.out j (by rw [HN.out]; exact hjn)
      have HS := Lib.hid (sumB_succ Z j (by rw [HN.out]; exact hjn))
      have b1 := HLE.out j
      have b2 := HLE.out (j + 1)
      rw [HS.out] at b2
      generalize (Z.getD j []).length = m at *
      generalize sumB Z j = s at *
      have hneg : ¬ ((s : Int) + (m : Int) < 0) := by omega
      go_wp2
      go_round
      case rel => exact ⟨j + 1, by omega, by go_num, by rw [HS.out]; go_num⟩
      case measure => simp [intOf]; omega
    · obtain rfl : n = j := by omega
      rw [HALL.out]
      obtain ⟨N, hN⟩ : ∃ N, Z.flatten.length = N := ⟨_, rfl⟩
      rw [hN] at hs ⊢
      have HNN := Lib.hid hN
      clear hN
      go_wp2_with fail
      refine (grow_any N w hs).mono ?_
      rintro e W1 ⟨v1, rfl, r1, B1⟩
      go_wp2_with fail
      go_loopw [6, 27] (fun v i wr => ∃ j : Nat, j ≤ n ∧ i = .int .i64 (j : Int) ∧ PRow wr w.heap.size v (Z.take j).flatten ∧ Below w.heap.size w wr) (fun _ i _ => n - (intOf i).toNat)
      case atStart => exact ⟨0, Nat.zero_le _, rfl, by simpa using r1, B1⟩
      case round =>
        obtain ⟨j, hj2, rfl, r2, B2⟩ := hrel
        have s2 := B2.size
        by_cases hjn2 : j < n
        · obtain ⟨c, hl⟩ := HP.out j (by rw [HN.out]; exact hjn2)
          rw [← B2.cell hpb] at c
          replace hl := hl.keepB (w' := wr) B2
          have HF := Lib.hid (take_flatB Z j (by rw [HN.out]; exact hjn2))
          have b2 : (Z.take j).flatten.length + (Z.getD j []).length ≤ 1048576 := by
            have h1 := HLE.out (j + 1)
            unfold sumB at h1
            rw [HF.out, List.length_append, HNN.out] at h1
            omega
          generalize Z.getD j [] = zj at *
          generalize A j = aj at *
          generalize C j = cj at *
          obtain ⟨m, hm⟩ : ∃ m, zj.length = m := ⟨_, rfl⟩
          rw [hm] at c hl b2
          clear hm
          go_wp2_with (at_builtin; (refine wpList_append_ptrs ?_ (.tmp 31) (.tmp 32) rfl w.heap.size _ (Z.take j).flatten rfl r2 _ m cj zj rfl hl b2 s2 ?_))
          intro v3 W3 r3 g3
          have B3 := r2.bel B2 s2 (Nat.le_refl _) g3
          clear c hl r2 g3 B2
          go_wp2
          go_roundw
          case rel => exact ⟨j + 1, by omega, by go_num, by rw [HF.out]; exact r3, B3⟩
          case measure => simp [intOf]; omega
        · obtain rfl : n = j := by omega
          have HE := Lib.hid (show (Z.take n).flatten = Z.flatten from by rw [← HN.out, List.take_length])
          rw [HE.out] at r2
          go_wp2
          go_ret
          exact ⟨_, rfl, r2, B2⟩

end Go.Proofs.YtpbhdlhbcfkhfaaGreat
