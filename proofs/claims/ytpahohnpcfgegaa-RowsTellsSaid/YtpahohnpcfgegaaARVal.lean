/-
  Contracts of the document's Values and Fold.
-/
import Derived.Test.YtpahohnpcfgegaaARName
import Derived.Test.YtpahohnpcfgegaaAFold2
import Derived.Test.YtpahohnpcfgegaaPRCap
import Derived.BigRegion
namespace Go.Proofs.Ytpahohnpcfgegaa
open Go.RowKit
set_option linter.unusedVariables false
set_option linter.unusedSimpArgs false

/-- A slice of numbers. -/
def IntsAt (w : World) (a : Option Addr) (len : Nat) (l : List Int) : Prop :=
  l.length = len ∧ (∀ x ∈ l, in64 x) ∧ (len = 0 ∨ ∃ b off, a = some ⟨b, off, none⟩ ∧ b < w.heap.size ∧ ∀ i, i < len → w.cell? ⟨b, off + i, none⟩ = some (.int .i64 (l.getD i 0)))
theorem IntsAt.keep {w w' : World} {a : Option Addr} {len : Nat} {l : List Int} (h : IntsAt w a len l) (hb : Below w.heap.size w w') : IntsAt w' a len l := by
  obtain ⟨h1, h2, h3⟩ := h
  refine ⟨h1, h2, ?_⟩
  rcases h3 with h0 | ⟨b, off, rfl, hlt, hc⟩
  · exact .inl h0
  · exact .inr ⟨b, off, rfl, Nat.lt_of_lt_of_le hlt hb.size, fun i hi => by rw [hb.cell hlt]; exact hc i hi⟩
theorem IntsAt.all {w : World} {a : Option Addr} {len : Nat} {l : List Int} (h : IntsAt w a len l) (h0 : 0 < len) :
    ∃ b off, a = some ⟨b, off, none⟩ ∧ b < w.heap.size ∧ ∀ i, i < len → w.cell? ⟨b, off + i, none⟩ = some (.int .i64 (l.getD i 0)) := by
  rcases h.2.2 with e | h
  · omega
  · exact h
theorem getD_in {l : List Int} (h : ∀ x ∈ l, in64 x) (i : Nat) : in64 (l.getD i 0) := by
  rw [List.getD_eq_getElem?_getD]
  by_cases hj : i < l.length
  · rw [List.getElem?_eq_getElem hj]; exact h _ (List.getElem_mem hj)
  · rw [List.getElem?_eq_none (by omega)]; simp [in64]
theorem take_snoc (l : List Int) (j : Nat) (h : j < l.length) : l.take (j + 1) = l.take j ++ [l.getD j 0] := by
  rw [List.take_succ_eq_append_getElem h, List.getD_eq_getElem?_getD, List.getElem?_eq_getElem h]; rfl
theorem take_ne {l : List Int} {j : Nat} (h : 1 ≤ j) (hl : j ≤ l.length) : l.take j ≠ [] := by
  intro e
  have := congrArg List.length e
  rw [List.length_take, List.length_nil] at this
  omega
/-- What a number more makes. -/
theorem one_more {l : List Int} {j : Nat} (h1 : 1 ≤ j) (h : j < l.length) (hin : ∀ x ∈ l, in64 x) :
    sumC (l.take (j + 1)) = capS (sumC (l.take j)) (l.getD j 0) ∧ minL (l.take (j + 1)) = min (minL (l.take j)) (l.getD j 0) ∧ maxL (l.take (j + 1)) = max (maxL (l.take j)) (l.getD j 0) ∧ in64 (sumC (l.take j)) := by
  have hne := take_ne h1 (Nat.le_of_lt h)
  rw [take_snoc l j h]
  exact ⟨fold1_snoc capS _ _ hne, fold1_snoc min _ _ hne, fold1_snoc max _ _ hne, sumC_in _ hne (fun x hx => hin x (List.mem_of_mem_take hx))⟩

set_option maxRecDepth 100000 in
set_option maxHeartbeats 4000000 in
theorem values_ok (k : Int) (a : Option Addr) (len cap : Nat) (l : List Int) (w : World) (h : IntsAt w a len l) (h0 : 0 < len) (hl : len < 4611686018427387904) (hk : kok k) :
    Calls Try.prog 46 #[.int .i64 k, .slice a len cap] w (FoldP k l w) := by
  obtain ⟨b, off, rfl, hb, hc⟩ := h.all h0
  have HL := Lib.hid h.1
  have HIN := Lib.hid h.2.1
  have HK := Lib.hid hk
  have HC := Lib.hid hc
  obtain ⟨n, hn⟩ : ∃ n, n = nmA k := ⟨_, rfl⟩
  have HN := Lib.hid hn
  have t4 : ¬ n.toList = [] := by rw [hn]; exact fun e => (nmA_empty k).1 e hk
  have t5 : n.toList.isEmpty = false := by simpa using t4
  have hne : l ≠ [] := by intro e; have := h.1; rw [e] at this; simp at this; omega
  have HNE := Lib.hid hne
  have b0 : w.cell? ⟨b, off, none⟩ = some (.int .i64 (l.getD 0 0)) := by have := hc 0 h0; rwa [Nat.add_zero] at this
  have HB0 := Lib.hid b0
  clear h hk hc hn hne
  have t6 : ((len : Int) == 0) = false := by rw [beq_eq_false_iff_ne]; omega
  go_enter Try.func46, Try.ntmps46
  go_wp2_with fail
  refine (arname_any k _).mono ?_
  rintro e W1 ⟨rfl, B1⟩
  have b1 : W1.cell? ⟨b, off, none⟩ = some (.int .i64 (l.getD 0 0)) := by rw [B1.cell hb]; exact b0
  have HC1 := Lib.hid (show ∀ i, i < len → W1.cell? ⟨b, off + i, none⟩ = some (.int .i64 (l.getD i 0)) from fun i hi => by rw [B1.cell hb]; exact HC.out i hi)
  have hb1 := Nat.lt_of_lt_of_le hb B1.size
  clear b0 HB0
  rw [← HN.out]
  obtain ⟨v0, hv0⟩ : ∃ v0, l.getD 0 0 = v0 := ⟨_, rfl⟩
  rw [hv0] at b1
  have HV0 := Lib.hid hv0
  clear hv0
  go_wp2
  go_loopw [6, 7, 8, 9] (fun s m x i wr => ∃ j : Nat, 1 ≤ j ∧ j ≤ len ∧ i = .int .i64 (j : Int) ∧ s = .int .i64 (sumC (l.take j)) ∧ m = .int .i64 (minL (l.take j)) ∧ x = .int .i64 (maxL (l.take j)) ∧ wr = W1) (fun _ _ _ i _ => len - (intOf i).toNat)
  case atStart =>
    have e : l.take 1 = [v0] := by
      have := HNE.out
      rw [← HV0.out]
      cases l with
      | nil => exact absurd rfl this
      | cons a l => rfl
    exact ⟨1, Nat.le_refl _, h0, rfl, by rw [e]; rfl, by rw [e]; rfl, by rw [e]; rfl, rfl⟩
  case round =>
    obtain ⟨j, hj1, hj, rfl, rfl, rfl, rfl, rfl⟩ := hrel
    by_cases hjn : j < len
    · have x1 := HC1.out j hjn
      obtain ⟨e1, e2, e3, e4⟩ := one_more hj1 (by rw [HL.out]; exact hjn) HIN.out
      have HE1 := Lib.hid e1
      have HE2 := Lib.hid e2
      have HE3 := Lib.hid e3
      have HS := Lib.hid e4
      have HV := Lib.hid (getD_in HIN.out j)
      generalize l.getD j 0 = v at *
      generalize sumC (l.take j) = s at *
      obtain ⟨m, hm⟩ : ∃ m, minL (l.take j) = m := ⟨_, rfl⟩
      obtain ⟨x, hx⟩ : ∃ x, maxL (l.take j) = x := ⟨_, rfl⟩
      rw [hm] at HE2
      rw [hx] at HE3
      rw [hm, hx]
      clear e1 e2 e3 e4 hm hx b1
      have HE2' : Hid ((v < m ∧ v = minL (l.take (j + 1))) ∨ (m ≤ v ∧ m = minL (l.take (j + 1)))) := Lib.hid (by rw [HE2.out]; omega)
      have HE3' : Hid ((x < v ∧ v = maxL (l.take (j + 1))) ∨ (v ≤ x ∧ x = maxL (l.take (j + 1)))) := Lib.hid (by rw [HE3.out]; omega)
      clear HE2 HE3
      obtain ⟨y1, hy1⟩ : ∃ y, minL (l.take (j + 1)) = y := ⟨_, rfl⟩
      obtain ⟨y2, hy2⟩ : ∃ y, maxL (l.take (j + 1)) = y := ⟨_, rfl⟩
      rw [hy1] at HE2'
      rw [hy2] at HE3'
      have HY1 := Lib.hid hy1
      have HY2 := Lib.hid hy2
      clear hy1 hy2
      rcases HE2'.out with ⟨q1, rfl⟩ | ⟨q1, rfl⟩ <;> rcases HE3'.out with ⟨q2, rfl⟩ | ⟨q2, rfl⟩
      all_goals
        clear HE2' HE3'
        go_wp2_with fail
        refine (rcap_any _ _ _ HS.out HV.out).mono ?_
        rintro e w' ⟨rfl, rfl⟩
        rw [← HE1.out]
        go_wp2
        go_roundw
        case rel => exact ⟨j + 1, by omega, by omega, by go_num, rfl, by rw [HY1.out], by rw [HY2.out], by trivial⟩
        case measure => simp [intOf]; omega
    · obtain rfl : j = len := by omega
      have et : l.take j = l := List.take_of_length_le (by rw [HL.out]; exact Nat.le_refl _)
      rw [et]
      have hmn := minL_is l HNE.out
      have hmx := maxL_is l HNE.out
      have him := HIN.out _ hmn.1
      have hix := HIN.out _ hmx.1
      have hle := hmn.2 _ hmx.1
      obtain ⟨m, hm⟩ : ∃ m, minL l = m := ⟨_, rfl⟩
      obtain ⟨x, hx⟩ : ∃ x, maxL l = x := ⟨_, rfl⟩
      obtain ⟨y, hy⟩ : ∃ y, wideL l = y := ⟨_, rfl⟩
      have hy2 : (x - m ≤ 9223372036854775807 ∧ y = x - m) ∨ (¬ x - m ≤ 9223372036854775807 ∧ y = 9223372036854775807) := by
        rw [← hy]
        unfold wideL
        rw [hm, hx]
        split
        · exact .inl ⟨by omega, rfl⟩
        · exact .inr ⟨by omega, rfl⟩
      rw [hm] at him hle
      rw [hx] at hix hle
      have hq := HV0.out
      obtain ⟨u, hu⟩ : ∃ u, l.getD (j - 1) 0 = u := ⟨_, rfl⟩
      have x1 := HC1.out (j - 1) (by omega)
      rw [hu] at x1
      have HVAL : Hid (tell (valK k l) (isK k l) = (.tuple #[.int .i64 (if k = 1 then sumC l else if k = 2 then m else if k = 3 then x else if k = 4 then (j : Int) else if k = 5 then v0 else if k = 6 then u else y), .bool true])) := Lib.hid (by
        unfold tell
        have e1 : isK k l = true := by unfold isK; rw [decide_eq_true (show 1 ≤ k ∧ k ≤ 7 from HK.out), decide_eq_true HNE.out]; rfl
        obtain ⟨a1, a2, a3, a4, a5, a6, a7⟩ := valK_of HNE.out
        have e5 : l.headD 0 = v0 := by rw [← hq]; cases l with | nil => rfl | cons a l => rfl
        have e6 : l.getLastD 0 = u := by
          rw [← hu, List.getLastD_eq_getLast?, List.getLast?_eq_getElem?, List.getD_eq_getElem?_getD, HL.out]
        have e2 : valK k l = (if k = 1 then sumC l else if k = 2 then m else if k = 3 then x else if k = 4 then (j : Int) else if k = 5 then v0 else if k = 6 then u else y) := by
          rcases kinds HK.out with rfl | rfl | rfl | rfl | rfl | rfl | rfl
          · rw [a1]; rfl
          · rw [a2, hm]; rfl
          · rw [a3, hx]; rfl
          · rw [a4, HL.out]; rfl
          · rw [a5, e5]; rfl
          · rw [a6, e6]; rfl
          · rw [a7, hy]; rfl
        rw [e1, e2])
      rw [hm, hx]
      generalize sumC l = s at *
      clear hm hx hy hu hq et hmn hmx
      obtain ⟨k, rfl⟩ := Int.eq_ofNat_of_zero_le (show 0 ≤ k by have := HK.out; unfold kok at this; omega)
      have hk1 : 1 ≤ k := by have := HK.out; unfold kok at this; omega
      have hk2 : k ≤ 7 := by have := HK.out; unfold kok at this; omega
      have t1 : ((k : Int) - 1).toNat = k - 1 := by omega
      have t2 : ((j : Int) - 1).toNat = j - 1 := by omega
      obtain ⟨r, hr⟩ : ∃ r, (if (k : Int) = 1 then s else if (k : Int) = 2 then m else if (k : Int) = 3 then x else if (k : Int) = 4 then (j : Int) else if (k : Int) = 5 then v0 else if (k : Int) = 6 then u else y) = r := ⟨_, rfl⟩
      rw [hr] at HVAL
      have hls : ∀ c7, c7 = y → (wr.alloc (.cells #[.int .i64 s, .int .i64 m, .int .i64 x, .int .i64 (j : Int), .int .i64 v0, .int .i64 u, .int .i64 c7] 3)).cell? ⟨wr.heap.size, k - 1, none⟩ = some (.int .i64 r) := by
        rintro c7 rfl
        rw [cell_of (heap_new wr _), ← hr]
        have q : k = 1 ∨ k = 2 ∨ k = 3 ∨ k = 4 ∨ k = 5 ∨ k = 6 ∨ k = 7 := by omega
        rcases q with rfl | rfl | rfl | rfl | rfl | rfl | rfl <;> rfl
      have HLS := Lib.hid hls
      have hix2 : -9223372036854775808 ≤ x ∧ x ≤ 9223372036854775807 := hix
      have him2 : -9223372036854775808 ≤ m ∧ m ≤ 9223372036854775807 := him
      have HW : Hid (x - m ≤ 9223372036854775807 → wrap64 (x - m) = y) := Lib.hid (by
        intro h
        rcases hy2 with ⟨h1, rfl⟩ | ⟨h1, _⟩
        · unfold wrap64; omega
        · exact absurd h h1)
      have HW2 : Hid (¬ x - m ≤ 9223372036854775807 → 9223372036854775807 = y) := Lib.hid (by
        intro h
        rcases hy2 with ⟨h1, _⟩ | ⟨_, rfl⟩
        · exact absurd h1 h
        · rfl)
      have BF := Lib.hid ((B1.alloc B1.size (.cells #[.int .i64 s, .int .i64 m, .int .i64 x, .int .i64 (j : Int), .int .i64 v0, .int .i64 u, .int .i64 y] 3)).drew)
      have HHI := Lib.hid hix2
      have HHM := Lib.hid him2
      clear hls hr hy2 him hix B1 HK HIN HNE HV0 HC1
      by_cases q0 : 0 ≤ m
      · have tw := HW.out (by omega)
        have c1 := HLS.out _ tw
        rw [← tw] at BF
        clear HLS HW HW2 hix2 him2 tw
        go_wp2
        go_region
        go_wp2
        go_ret2
        exact ⟨by rw [HVAL.out]; rfl, BF.out⟩
      · by_cases q1 : x < 0
        · have tw := HW.out (by omega)
          have c1 := HLS.out _ tw
          rw [← tw] at BF
          clear HLS HW HW2 hix2 him2 tw
          go_wp2
          go_region
          go_wp2
          go_ret2
          exact ⟨by rw [HVAL.out]; rfl, BF.out⟩
        · have tm : wrap64 (9223372036854775807 + m) = 9223372036854775807 + m := by unfold wrap64; omega
          by_cases q2 : x ≤ 9223372036854775807 + m
          · have tw := HW.out (by omega)
            have tw : x - m = y := by rw [← tw]; unfold wrap64; omega
            have c1 := HLS.out _ tw
            rw [← tw] at BF
            clear HLS HW HW2 hix2 him2 tw
            go_wp2
            go_region
            go_wp2
            go_ret2
            exact ⟨by rw [HVAL.out]; rfl, BF.out⟩
          · have tw := HW2.out (by omega)
            have c1 := HLS.out _ tw
            rw [← tw] at BF
            clear HLS HW HW2 hix2 him2 tw
            go_wp2
            go_region
            go_wp2
            go_ret2
            exact ⟨by rw [HVAL.out]; rfl, BF.out⟩

end Go.Proofs.Ytpahohnpcfgegaa
