/-
  Contract of chunk.laid: a new list of the samples of all parts, in order.
  Condition: at most 2^20 samples in all.
-/
import Derived.Test.YtpbhdlhbcfkhfaaGreatCMem
import Derived.Test.YtpbhdlhbcfkhfaaGreatCCopy
import Derived.OwnWalk
namespace Go.Proofs.YtpbhdlhbcfkhfaaGreat
open Go.RowKit
set_option linter.unusedVariables false
set_option linter.unusedSimpArgs false

/-- Slices of samples lie in a row, one behind the other. -/
def PartsAt (w : World) (pb : Nat) (Z : List (List (Int × Int))) (A : Nat → Option Addr) (C : Nat → Nat) : Prop :=
  ∀ i, i < Z.length → w.cell? ⟨pb, i, none⟩ = some (.slice (A i) (Z.getD i []).length (C i)) ∧ Lst w (A i) (Z.getD i []).length (C i) (Z.getD i [])
def LaidP (z : List (Int × Int)) (w : World) (e : Ending) (w' : World) : Prop :=
  ∃ a cap, e = .returned (.slice a z.length cap) ∧ Lst w' a z.length cap z ∧ Below w.heap.size w w'

/-- The same, in a block of its own. -/
def LaidN (z : List (Int × Int)) (w : World) (e : Ending) (w' : World) : Prop :=
  ∃ a cap, e = .returned (.slice a z.length cap) ∧ Lst w' a z.length cap z ∧ Below w.heap.size w w' ∧ ∀ q, a = some q → w.heap.size ≤ q.block
theorem LaidN.laid {z : List (Int × Int)} {w w' : World} {e : Ending} (h : LaidN z w e w') : LaidP z w e w' := by
  obtain ⟨a, cap, h1, h2, h3, _⟩ := h; exact ⟨a, cap, h1, h2, h3⟩
def sumTo (Z : List (List (Int × Int))) (i : Nat) : Nat := (Z.take i).flatten.length
theorem take_flat (Z : List (List (Int × Int))) (i : Nat) (h : i < Z.length) : (Z.take (i + 1)).flatten = (Z.take i).flatten ++ Z.getD i [] := by
  rw [List.take_succ_eq_append_getElem h, List.flatten_append]
  simp [List.getD_eq_getElem?_getD, List.getElem?_eq_getElem h]
theorem sumTo_succ (Z : List (List (Int × Int))) (i : Nat) (h : i < Z.length) : sumTo Z (i + 1) = sumTo Z i + (Z.getD i []).length := by
  unfold sumTo; rw [take_flat Z i h, List.length_append]
theorem sumTo_le (Z : List (List (Int × Int))) (i : Nat) : sumTo Z i ≤ Z.flatten.length := by
  unfold sumTo
  conv => rhs; rw [← List.take_append_drop i Z, List.flatten_append, List.length_append]
  omega
theorem sumTo_all (Z : List (List (Int × Int))) : sumTo Z Z.length = Z.flatten.length := by unfold sumTo; rw [List.take_length]
theorem smpCells_append (x y : List (Int × Int)) : smpCells (x ++ y) = smpCells x ++ smpCells y := by simp [smpCells]

theorem parts_all64 {w : World} {pb : Nat} {Z : List (List (Int × Int))} {A : Nat → Option Addr} {C : Nat → Nat} (h : PartsAt w pb Z A C) : All64 Z.flatten := by
  intro x hx
  obtain ⟨l, hl, hxl⟩ := List.mem_flatten.1 hx
  obtain ⟨i, hi, rfl⟩ := List.mem_iff_getElem.1 hl
  have := (h i hi).2.all64
  rw [List.getD_eq_getElem?_getD, List.getElem?_eq_getElem hi, Option.getD_some] at this
  exact this x hxl

/-- A row that is known whole, as a list. -/
theorem lst_whole {w : World} {g n : Nat} {z : List (Int × Int)} (hz : All64 z) (hn : z.length = n) (hl : n ≤ 1048576) (h : w.heap[g]? = some (.cells (smpCells z).toArray 33 (0, 0))) :
    Lst w (some ⟨g, 0, none⟩) n n z := by
  refine ⟨⟨hn, Nat.le_refl _, by omega, hz, .inr ⟨g, 0, rfl, heap_lt h, fun i hi => ?_⟩⟩, .inr ⟨⟨g, 0, none⟩, _, _, rfl, h⟩⟩
  obtain ⟨h1, h2⟩ := smpCells_get z i hi
  rw [cell_of h, cell_of h, Nat.zero_add]
  simp only [List.getElem?_toArray]
  exact ⟨h1, h2⟩

theorem slice_row (g at' n : Nat) (h : at' ≤ n) : ∃ dp, (at' < n → dp = some ⟨g, at' * 2, none⟩) ∧
    ∀ W : World, (Instr.slice 53 (.slice (some ⟨g, 0, none⟩) n n) (some (.int .i64 (at' : Int))) none none).run Tryz.prog W = .ok (.slice dp (n - at') (n - at')) W := by
  refine ⟨if n = at' then some ⟨g, 0, none⟩ else some ⟨g, at' * 2, none⟩, fun h => by rw [if_neg (by omega)], fun W => ?_⟩
  rw [run_slice_l W 53 _ _ _ (by kernel_rfl) .i64 (at' : Int) (by omega) (by omega), size_samp]
  by_cases e : n = at'
  · simp [Result.andThen, sliced, Addr.add, e]
  · simp [Result.andThen, sliced, Addr.add, e]
    try omega

theorem splice_take (cur : List Value) (k m : Nat) (xs ys : List Value) (h1 : cur.take k = xs) (hk : k ≤ cur.length) (hy : ys.length = m) : (splice cur k ys).take (k + m) = xs ++ ys := by
  unfold splice
  rw [h1, ← List.append_assoc]
  have hx : xs.length = k := by rw [← h1, List.length_take]; omega
  rw [List.take_append_of_le_length (by simp; omega)]
  exact List.take_of_length_le (by simp; omega)

theorem src_cells {w : World} {a : Option Addr} {len cap : Nat} {z : List (Int × Int)} (h : Lst w a len cap z) (h0 : 0 < len) :
    ∃ ad, a = some ad ∧ ∀ j v, (smpCells z)[j]? = some v → w.cell? (ad.add j) = some v := by
  obtain ⟨⟨h1, h2, h3, h4, h5⟩, _⟩ := h
  rcases h5 with e | ⟨b, off, rfl, hb, hc⟩
  · omega
  · refine ⟨_, rfl, fun j v hj => ?_⟩
    have hjl : j < (smpCells z).length := (List.getElem?_eq_some_iff.1 hj).1
    rw [smpCells_length] at hjl
    obtain ⟨c1, c2⟩ := hc (j / 2) (by omega)
    obtain ⟨g1, g2⟩ := smpCells_get z (j / 2) (by omega)
    have ha : (⟨b, off, none⟩ : Addr).add j = ⟨b, off + j, none⟩ := by simp [Addr.add]
    rw [ha]
    rcases (show j = j / 2 * 2 ∨ j = j / 2 * 2 + 1 from by omega) with e | e
    · rw [e] at hj ⊢
      rw [g1] at hj
      rw [c1, hj]
    · rw [e] at hj ⊢
      rw [g2] at hj
      rw [← Nat.add_assoc, c2, hj]

set_option maxRecDepth 100000 in
set_option maxHeartbeats 1000000 in
theorem laid_new (pb : Nat) (Z : List (List (Int × Int))) (A : Nat → Option Addr) (C : Nat → Nat) (n : Nat) (w : World) (hn : Z.length = n) (hp : PartsAt w pb Z A C) (hpb : pb < w.heap.size) (hs : Z.flatten.length ≤ 1048576) (hn8 : n ≤ 8) :
    Calls Tryz.prog 54 #[.slice (some ⟨pb, 0, none⟩) n n] w (LaidN Z.flatten w) := by
  have HP := Lib.hid hp
  have H64 := Lib.hid (parts_all64 hp)
  have HN := Lib.hid hn
  clear hp hn
  have HALL := Lib.hid (sumTo_all Z)
  rw [HN.out] at HALL
  have HLE := Lib.hid (sumTo_le Z)
  go_enter Tryz.func54, Tryz.ntmps54
  go_wp2_with fail
  go_loop [3, 12] (fun m i => ∃ j : Nat, j ≤ n ∧ i = .int .i64 (j : Int) ∧ m = .int .i64 (sumTo Z j : Int)) (fun _ i => n - (intOf i).toNat)
  case atStart => exact ⟨0, Nat.zero_le _, rfl, by simp [sumTo]⟩
  case round =>
    obtain ⟨j, hj, rfl, rfl⟩ := hrel
    by_cases hjn : j < n
    · obtain ⟨c, _⟩ := HP.out j (by rw [HN.out]; exact hjn)
      have HS := Lib.hid (sumTo_succ Z j (by rw [HN.out]; exact hjn))
      have b1 := HLE.out j
      have b2 := HLE.out (j + 1)
      rw [HS.out] at b2
      generalize (Z.getD j []).length = m at *
      generalize sumTo Z j = s at *
      go_wp2
      go_round
      case rel => exact ⟨j + 1, by omega, by go_num, by rw [HS.out]; go_num⟩
      case measure => simp [intOf]; omega
    · obtain rfl : n = j := by omega
      rw [HALL.out]
      by_cases h0 : Z.flatten.length = 0
      · have HE := Lib.hid (List.eq_nil_of_length_eq_zero h0)
        rw [h0]
        clear h0
        go_wp2
        go_ret
        refine ⟨none, 0, ?_, ?_, Below.refl _ _, fun q e => by cases e⟩
        · rw [HE.out]; rfl
        · rw [HE.out]; exact Lst.nil w
      · have h0' : (((Z.flatten.length : Nat) : Int) == 0) = false := by rw [beq_eq_false_iff_ne]; omega
        obtain ⟨N, hN⟩ : ∃ N, Z.flatten.length = N := ⟨_, rfl⟩
        rw [hN] at h0' hs ⊢
        have HNN := Lib.hid hN
        clear h0 hN
        obtain ⟨i0, hi, hz0, hz1, hz2⟩ := info_parts info_samp
        go_wp2_with (at_make; refine wpList_make_full _ rfl _ _ _ rfl w.heap.size 33 i0 _ 2 Tryz.underlying53 hi hz0 hz1 .i64 .i64 (N : Int) (N : Int) N rfl rfl rfl rfl (by rw [hz2]; omega) (by unfold maxLen; omega) (Nat.le_refl _) ?_; intro W1 o1 g1)
        have B1 : Below w.heap.size w W1 := gb_below_none g1
        obtain ⟨cur, hcur, hlc⟩ : ∃ cur : List Value, Hid (W1.heap[w.heap.size]? = some (.cells cur.toArray 33 (0, 0))) ∧ cur.length = N * 2 := by
          rcases o1.2 with ⟨h, _⟩ | ⟨g, cp, cu, h, _, hg, _, _, hsz, _⟩
          · cases h
          · cases h
            exact ⟨cu.toList, Lib.hid (by simpa using hg), by simpa using hsz⟩
        clear o1 g1 hi hz0 hz1 hz2
        go_wp2_with fail
        go_loopw [7, 27] (fun m i wr => ∃ (j : Nat) (cu : List Value), j ≤ n ∧ i = .int .i64 (j : Int) ∧ m = .int .i64 (sumTo Z j : Int) ∧ Hid (wr.heap[w.heap.size]? = some (.cells cu.toArray 33 (0, 0))) ∧ cu.length = N * 2 ∧ Hid (cu.take (sumTo Z j * 2) = smpCells (Z.take j).flatten) ∧ Below w.heap.size w wr) (fun _ i _ => n - (intOf i).toNat)
        case atStart => exact ⟨0, cur, Nat.zero_le _, rfl, by simp [sumTo], hcur, hlc, by show _ = _; simp [sumTo, smpCells], B1⟩
        case round =>
          obtain ⟨j, cu, hj2, rfl, rfl, hcu, hlu, htk, B2⟩ := hrel
          by_cases hjn : j < n
          · obtain ⟨c, hl⟩ := HP.out j (by rw [HN.out]; exact hjn)
            rw [← B2.cell hpb] at c
            replace hl := hl.keep (w' := wr) (gb_below (row := none) B2) (by simp)
            have HS := Lib.hid (sumTo_succ Z j (by rw [HN.out]; exact hjn))
            have HF := Lib.hid (take_flat Z j (by rw [HN.out]; exact hjn))
            have b1 := HLE.out j
            have b2 := HLE.out (j + 1)
            rw [HS.out, HNN.out] at b2
            rw [HNN.out] at b1
            generalize Z.getD j [] = zj at *
            generalize sumTo Z j = s at *
            generalize A j = aj at *
            generalize C j = cj at *
            obtain ⟨m, hm⟩ : ∃ m, zj.length = m := ⟨_, rfl⟩
            rw [hm] at c hl HS b2
            have HM := Lib.hid hm
            clear hm
            obtain ⟨dp, hdp, hsl⟩ := slice_row w.heap.size s N (by omega)
            have HSR := Lib.hid (fun h => src_cells hl h)
            have HDP := Lib.hid hdp
            clear hdp hl
            go_wp2_with (with_reducible refine wpList_copy_wide rfl (.tmp 34) (.tmp 35) 53 53 rfl 33 Tryz.underlying53 2 (by kernel_rfl) dp aj (N - s) (N - s) m cj rfl rfl w.heap.size (s * 2) cu 33 hcu.out (smpCells zj) m (by show m = min m (N - s); omega) (by rw [smpCells_length, HM.out]) (fun h => ⟨HDP.out (by omega), HSR.out h⟩) (by rw [smpCells_length, HM.out, hlu]; omega) (smpCells_one zj) w.heap.size w B2 (Nat.le_refl _) ?_; intro W3 hcu3 g3 B3)
            clear hsl c
            go_wp2
            go_roundw
            case rel =>
              refine ⟨j + 1, _, by omega, by go_num, by rw [HS.out]; go_num, hcu3, by rw [length_splice _ _ _ (by rw [smpCells_length, HM.out, hlu]; omega), hlu], ?_, B3⟩
              show _ = _
              rw [HF.out, smpCells_append, HS.out, Nat.add_mul]
              exact splice_take cu (s * 2) (m * 2) _ _ htk.out (by omega) (by rw [smpCells_length, HM.out])
            case measure => simp [intOf]; omega
          · obtain rfl : n = j := by omega
            have HC : Hid (cu = smpCells Z.flatten) := by
              have h := htk.out
              rw [HALL.out, HNN.out, ← HN.out, List.take_length, List.take_of_length_le (by omega)] at h
              exact h
            go_wp2
            go_ret
            refine ⟨some ⟨w.heap.size, 0, none⟩, N, by rw [HNN.out]; rfl, ?_, B2, fun q e => by cases e; exact Nat.le_refl _⟩
            rw [HNN.out]
            exact lst_whole H64.out HNN.out hs (by rw [← HC.out]; exact hcu.out)
theorem laid_any (pb : Nat) (Z : List (List (Int × Int))) (A : Nat → Option Addr) (C : Nat → Nat) (n : Nat) (w : World) (hn : Z.length = n) (hp : PartsAt w pb Z A C) (hpb : pb < w.heap.size) (hs : Z.flatten.length ≤ 1048576) (hn8 : n ≤ 8) :
    Calls Tryz.prog 54 #[.slice (some ⟨pb, 0, none⟩) n n] w (LaidP Z.flatten w) :=
  (laid_new pb Z A C n w hn hp hpb hs hn8).mono fun _ _ h => h.laid

end Go.Proofs.YtpbhdlhbcfkhfaaGreat
