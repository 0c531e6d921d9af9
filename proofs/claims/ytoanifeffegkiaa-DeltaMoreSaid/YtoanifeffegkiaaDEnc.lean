/-
  Contracts of delta.Bits and delta.Encode: how many bits samples have, and their bytes.
  Condition: at most 2^20 samples.
-/
import Derived.Test.YtoanifeffegkiaaDWalk
import Derived.Test.YtoanifeffegkiaaSamp
namespace Go.Proofs.Ytoanifeffegkiaa
open Go.RowKit
set_option linter.unusedVariables false
set_option linter.unusedSimpArgs false

/-- A walk that stands at sample j of z. -/
def WkZ (w : World) (b : Nat) (z : List (Int × Int)) (j : Nat) : Prop := WkAt w b (tOf z j, vOf z j) (stepOf z j)
def TowP (b : Nat) (z : List (Int × Int)) (j : Nat) (w : World) (e : Ending) (w' : World) : Prop :=
  ∃ tn vn : Nat, e = .returned (.tuple #[.int .u64 (tn : Int), .int .u64 (vn : Int)]) ∧ Hid (tn = tNum z j) ∧ Hid (vn = vNum z j) ∧ tn < 18446744073709551616 ∧ vn < 18446744073709551616 ∧ WkZ w' b z (j + 1) ∧ w.grownBy w' (some b)
theorem tow_any (b : Nat) (z : List (Int × Int)) (j : Nat) (T V : Int) (w : World) (hk : WkZ w b z j) (hT : T = tOf z (j + 1)) (hV : V = vOf z (j + 1)) :
    Calls Try.prog 35 #[.pointer (some ⟨b, 0, none⟩), .agg #[.int .i64 T, .int .i64 V]] w (TowP b z j w) := by
  subst hT hV
  refine (toward_any b (tOf z j, vOf z j) (tOf z (j + 1), vOf z (j + 1)) (stepOf z j) w hk).mono ?_
  rintro e w' ⟨rfl, h, g⟩
  exact ⟨_, _, rfl, rfl, rfl, tNum_lt z j, vNum_lt z j, h, g⟩
theorem WkZ.keep {w w' : World} {b : Nat} {z : List (Int × Int)} {j : Nat} {row : Option Nat} (h : WkZ w b z j) (hg : w.grownBy w' row) (hne : some b ≠ row) : WkZ w' b z j := by
  unfold WkZ WkAt at *
  rw [hg.block b (heap_lt h) hne]; exact h

theorem encTo_step (z : List (Int × Int)) (j : Nat) : encTo z (j + 2) = encTo z (j + 1) ++ code (tNum z j) ++ code (vNum z j) := by
  rw [encTo, piece, List.append_assoc]
theorem encTo_len_step (z : List (Int × Int)) (j : Nat) : (encTo z (j + 2)).length = (encTo z (j + 1)).length + csize (tNum z j) + csize (vNum z j) := by
  rw [encTo_step, List.length_append, List.length_append, code_length, code_length]
theorem encTo_len_one (z : List (Int × Int)) : (encTo z 1).length = 128 := by
  rw [encTo, List.length_append, piece_length]; simp [encTo]

set_option maxRecDepth 100000 in
set_option maxHeartbeats 1000000 in
theorem dbits_any (a : Option Addr) (len cap : Nat) (z : List (Int × Int)) (w : World) (hz : SampAt w a len cap z) (hl : len ≤ 1048576) :
    Calls Try.prog 19 #[.slice a len cap] w fun e w' => e = .returned (.int .i64 ((encTo z len).length : Int)) ∧ Below w.heap.size w w' := by
  by_cases h0 : len = 0
  · subst h0
    go_enter Try.func19, Try.ntmps19
    go_wp2
    go_ret
    exact ⟨rfl, Below.refl _ _⟩
  · have hlc := hz.2.1
    obtain ⟨b, off, rfl, hb, hc⟩ := hz.all (by omega)
    have hne : ((len : Int) == 0) = false := by rw [beq_eq_false_iff_ne]; omega
    obtain ⟨off', ho, hsl⟩ := slice_tail b off len cap (by omega) hlc
    have HC : Hid (∀ i, i + 1 < len → w.cell? ⟨b, off' + i * 2, none⟩ = some (.int .i64 (tOf z (i + 1))) ∧ w.cell? ⟨b, off' + i * 2 + 1, none⟩ = some (.int .i64 (vOf z (i + 1)))) := by
      intro i hi
      have := hc (i + 1) hi
      rw [ho (by omega), show off + 2 + i * 2 = off + (i + 1) * 2 from by omega]
      exact this
    obtain ⟨c0, c1⟩ := hc 0 (by omega)
    simp only [Nat.zero_mul, Nat.add_zero] at c0 c1
    have h0' : 0 < len := by omega
    obtain ⟨m, hm⟩ : ∃ m, len - 1 = m := ⟨_, rfl⟩
    have hm1 : m + 1 ≤ len := by omega
    have hm2 : len ≤ m + 1 := by omega
    rw [hm] at hsl
    generalize cap - 1 = cap' at hsl
    clear hz hc ho h0 hm
    go_enter Try.func19, Try.ntmps19
    go_wp2
    have B1 := (Below.refl w.heap.size w).alloc (Nat.le_refl _) (.cells #[.int .i64 (tOf z 0), .int .i64 (vOf z 0), .int .i64 0] 70)
    have K1 : WkZ (w.alloc (.cells #[.int .i64 (tOf z 0), .int .i64 (vOf z 0), .int .i64 0] 70)) w.heap.size z 0 := heap_new w _
    have s1 : w.heap.size < (w.alloc (.cells #[.int .i64 (tOf z 0), .int .i64 (vOf z 0), .int .i64 0] 70)).heap.size := by simp
    generalize w.alloc (.cells #[.int .i64 (tOf z 0), .int .i64 (vOf z 0), .int .i64 0] 70) = W1 at *
    clear c0 c1 hsl
    go_loopw [3, 19] (fun t i wr => ∃ j : Nat, j ≤ m ∧ i = .int .i64 (j : Int) ∧ t = .int .i64 ((encTo z (j + 1)).length : Int) ∧ WkZ wr w.heap.size z j ∧ Below w.heap.size w wr ∧ w.heap.size < wr.heap.size) (fun _ i _ => m - (intOf i).toNat)
    case atStart => exact ⟨0, Nat.zero_le _, rfl, by rw [encTo_len_one]; rfl, K1, B1, s1⟩
    case round =>
      obtain ⟨j, hj, rfl, rfl, hk, B2, s2⟩ := hrel
      have hle := encTo_le z (j + 1)
      by_cases hjm : j < m
      · obtain ⟨c0, c1⟩ := HC.out j (by omega)
        rw [← B2.cell hb] at c0 c1
        have HS := Lib.hid (encTo_len_step z j)
        have hle2 := encTo_le z (j + 2)
        obtain ⟨L, hL⟩ : ∃ L, (encTo z (j + 1)).length = L := ⟨_, rfl⟩
        obtain ⟨L2, hL2⟩ : ∃ L2, (encTo z (j + 2)).length = L2 := ⟨_, rfl⟩
        rw [hL] at hle HS ⊢
        rw [hL2] at hle2 HS
        have HL2 := Lib.hid hL2
        obtain ⟨T, hT⟩ : ∃ T, T = tOf z (j + 1) := ⟨_, rfl⟩
        obtain ⟨V, hV⟩ : ∃ V, V = vOf z (j + 1) := ⟨_, rfl⟩
        rw [← hT] at c0
        rw [← hV] at c1
        have HT := Lib.hid hT
        have HV := Lib.hid hV
        clear hT hV hL hL2
        go_wp2_with fail
        have B3 := B2.alloc (by omega) (.cells #[.int .i64 T, .int .i64 V] 59)
        have s3 : w.heap.size < (wr.alloc (.cells #[.int .i64 T, .int .i64 V] 59)).heap.size := by simp; omega
        have hk3 := hk.keep (World.grownBy_alloc wr (.cells #[.int .i64 T, .int .i64 V] 59) none) (by simp)
        clear hk B2 c0 c1
        generalize wr.alloc (.cells #[.int .i64 T, .int .i64 V] 59) = W3 at *
        refine (tow_any w.heap.size z j T V _ hk3 HT.out HV.out).mono ?_
        rintro e W4 ⟨tn, vn, rfl, HTN, HVN, htn, hvn, hk4, g4⟩
        have B4 := bel_gb B3 (by omega) (Nat.le_refl _) g4
        have s4 := Nat.lt_of_lt_of_le s3 g4.size
        clear hk3 B3 s3 g4
        go_wp2_with fail
        refine (size_any tn _ htn).mono ?_
        rintro e w' ⟨rfl, rfl⟩
        have b1 := csize_le tn
        have b2 := csize_le vn
        have HS2 : Hid (L2 = L + csize tn + csize vn) := by rw [HTN.out, HVN.out]; exact HS.out
        generalize csize tn = x1 at *
        go_wp2_with fail
        refine (size_any vn _ hvn).mono ?_
        rintro e w' ⟨rfl, rfl⟩
        generalize csize vn = x2 at *
        go_wp2
        go_roundw
        case rel => exact ⟨j + 1, by omega, by go_num, by rw [show j + 1 + 1 = j + 2 from rfl, HL2.out, HS2.out]; go_num, hk4, B4, s4⟩
        case measure => simp [intOf]; omega
      · obtain rfl : j = m := by omega
        go_wp2
        go_ret
        obtain rfl : len = j + 1 := by omega
        exact ⟨rfl, B2⟩

theorem put64_any (b : Nat) (xs : List Bool) (u n : Int) (w : World) (hw : WrAt w b xs) (hl : xs.length + 64 < 1099511627776) (hu : u = n % 18446744073709551616) :
    Calls Try.prog 32 #[.pointer (some ⟨b, 0, none⟩), .int .u64 u, .int .i64 64] w (PutN b (xs ++ bitsOf (u64 n) 64) w) := by
  have hc := put_okI b xs u 64 w hw (by simp; omega) (by omega) (by omega) (by omega) (by omega) (by rw [show (64 : Int).toNat = 64 from rfl, ← p64]; omega)
  rw [show u.toNat = u64 n from by rw [hu]; rfl, show (64 : Int).toNat = 64 from rfl] at hc
  exact hc
theorem encTo_one (z : List (Int × Int)) : encTo z 1 = [] ++ bitsOf (u64 (tOf z 0)) 64 ++ bitsOf (u64 (vOf z 0)) 64 := by
  rw [encTo, encTo, piece, firstB, List.nil_append, List.nil_append]

def EncP (l : List Bool) (w : World) (e : Ending) (w' : World) : Prop :=
  e = .returned (.tuple #[.string ⟨(packL l).toArray⟩, .int .i64 (l.length : Int)]) ∧ Below w.heap.size w w'

set_option maxRecDepth 100000 in
set_option maxHeartbeats 1000000 in
theorem dencode_any (a : Option Addr) (len cap : Nat) (z : List (Int × Int)) (w : World) (hz : SampAt w a len cap z) (hl : len ≤ 1048576) :
    Calls Try.prog 13 #[.slice a len cap] w (EncP (encTo z len) w) := by
  by_cases h0 : len = 0
  · subst h0
    go_enter Try.func13, Try.ntmps13
    go_wp2
    go_ret2
    refine ⟨?_, Below.refl _ _⟩
    rw [show encTo z 0 = [] from rfl, show packL [] = [] from by decide]; rfl
  · have hlc := hz.2.1
    obtain ⟨b, off, rfl, hb, hc⟩ := hz.all (by omega)
    have hne : ((len : Int) == 0) = false := by rw [beq_eq_false_iff_ne]; omega
    obtain ⟨off', ho, hsl⟩ := slice_tail b off len cap (by omega) hlc
    have HC : Hid (∀ i, i + 1 < len → w.cell? ⟨b, off' + i * 2, none⟩ = some (.int .i64 (tOf z (i + 1))) ∧ w.cell? ⟨b, off' + i * 2 + 1, none⟩ = some (.int .i64 (vOf z (i + 1)))) := by
      intro i hi
      have := hc (i + 1) hi
      rw [ho (by omega), show off + 2 + i * 2 = off + (i + 1) * 2 from by omega]
      exact this
    obtain ⟨c0, c1⟩ := hc 0 (by omega)
    simp only [Nat.zero_mul, Nat.add_zero] at c0 c1
    have h0' : 0 < len := by omega
    obtain ⟨m, hm⟩ : ∃ m, len - 1 = m := ⟨_, rfl⟩
    have hm1 : m + 1 ≤ len := by omega
    have hm2 : len ≤ m + 1 := by omega
    rw [hm] at hsl
    generalize cap - 1 = cap' at hsl
    have HC0 := Lib.hid c0
    have HC1 := Lib.hid c1
    have HSL := Lib.hid hsl
    have HE1 := Lib.hid (encTo_one z)
    obtain ⟨T0, hT0⟩ : ∃ T0, T0 = tOf z 0 := ⟨_, rfl⟩
    obtain ⟨V0, hV0⟩ : ∃ V0, V0 = vOf z 0 := ⟨_, rfl⟩
    rw [← hT0] at c0 HC0 HE1
    rw [← hV0] at c1 HC1 HE1
    have HT0 := Lib.hid hT0
    have HV0 := Lib.hid hV0
    clear hz hc ho h0 hm hsl hT0 hV0
    go_enter Try.func13, Try.ntmps13
    go_wp2_with fail
    have B1 := (Below.refl w.heap.size w).alloc (Nat.le_refl _) (.cells #[.pointer none, .int .u64 0, .int .i64 0] 28)
    have hw1 := wr_new w
    have s1 : w.heap.size + 1 ≤ (w.alloc (.cells #[.pointer none, .int .u64 0, .int .i64 0] 28)).heap.size := by simp
    clear c0 c1
    generalize w.alloc (.cells #[.pointer none, .int .u64 0, .int .i64 0] 28) = W1 at *
    refine (put64_any w.heap.size [] _ T0 _ hw1 (by simp) rfl).mono ?_
    rintro e W2 ⟨rfl, hw2, g2⟩
    have B2 := bel_gb B1 (by omega) (Nat.le_refl _) g2
    have s2 := Nat.le_trans s1 g2.size
    have c0 := HC0.out
    have c1 := HC1.out
    rw [← B2.cell hb] at c0 c1
    clear B1 s1 g2 hw1
    go_wp2_with fail
    refine (put64_any w.heap.size _ _ V0 _ hw2 (by simp [bitsOf_length]) rfl).mono ?_
    rintro e W3 ⟨rfl, hw3, g3⟩
    have B3 := bel_gb B2 (by omega) (Nat.le_refl _) g3
    have s3 := Nat.le_trans s2 g3.size
    clear c0 c1
    have c0 := HC0.out
    have c1 := HC1.out
    rw [← B3.cell hb] at c0 c1
    replace hw3 : WrAt W3 w.heap.size (encTo z 1) := by rw [HE1.out]; exact hw3
    have hsl := HSL.out
    clear B2 s2 g3 hw2
    go_wp2
    have B4 := B3.alloc (by omega) (.cells #[.int .i64 T0, .int .i64 V0, .int .i64 0] 70)
    have K4 : WkZ (W3.alloc (.cells #[.int .i64 T0, .int .i64 V0, .int .i64 0] 70)) W3.heap.size z 0 := by
      unfold WkZ WkAt
      rw [← HT0.out, ← HV0.out]; exact heap_new W3 _
    have hw4 := hw3.keep_none (World.grownBy_alloc W3 (.cells #[.int .i64 T0, .int .i64 V0, .int .i64 0] 70) none)
    have s4 : W3.heap.size + 1 ≤ (W3.alloc (.cells #[.int .i64 T0, .int .i64 V0, .int .i64 0] 70)).heap.size := by simp
    generalize W3.alloc (.cells #[.int .i64 T0, .int .i64 V0, .int .i64 0] 70) = W4 at *
    clear c0 c1 hsl HC0 HC1 HSL HE1 hw3 B3
    generalize W3.heap.size = kb at *
    go_loopw [32] (fun i wr => ∃ j : Nat, j ≤ m ∧ i = .int .i64 (j : Int) ∧ WrAt wr w.heap.size (encTo z (j + 1)) ∧ WkZ wr kb z j ∧ Below w.heap.size w wr ∧ kb + 1 ≤ wr.heap.size) (fun i _ => m - (intOf i).toNat)
    case atStart => exact ⟨0, Nat.zero_le _, rfl, hw4, K4, B4, s4⟩
    case round =>
      obtain ⟨j, hj, rfl, hw5, hk, B5, s5⟩ := hrel
      have hle := encTo_le z (j + 1)
      by_cases hjm : j < m
      · obtain ⟨c0, c1⟩ := HC.out j (by omega)
        rw [← B5.cell hb] at c0 c1
        have HS := Lib.hid (encTo_step z j)
        generalize encTo z (j + 1) = xs at *
        obtain ⟨ys, hys⟩ : ∃ ys, encTo z (j + 2) = ys := ⟨_, rfl⟩
        rw [hys] at HS
        have HYS := Lib.hid hys
        obtain ⟨T, hT⟩ : ∃ T, T = tOf z (j + 1) := ⟨_, rfl⟩
        obtain ⟨V, hV⟩ : ∃ V, V = vOf z (j + 1) := ⟨_, rfl⟩
        rw [← hT] at c0
        rw [← hV] at c1
        have HT := Lib.hid hT
        have HV := Lib.hid hV
        clear hT hV hys
        go_wp2_with fail
        have B6 := B5.alloc (by omega) (.cells #[.int .i64 T, .int .i64 V] 59)
        have s6 : kb + 1 ≤ (wr.alloc (.cells #[.int .i64 T, .int .i64 V] 59)).heap.size := by simp; omega
        have hk6 := hk.keep (World.grownBy_alloc wr (.cells #[.int .i64 T, .int .i64 V] 59) none) (by simp)
        have hw6 := hw5.keep_none (World.grownBy_alloc wr (.cells #[.int .i64 T, .int .i64 V] 59) none)
        clear hk B5 c0 c1 hw5
        generalize wr.alloc (.cells #[.int .i64 T, .int .i64 V] 59) = W6 at *
        refine (tow_any kb z j T V _ hk6 HT.out HV.out).mono ?_
        rintro e W7 ⟨tn, vn, rfl, HTN, HVN, htn, hvn, hk7, g7⟩
        have B7 := bel_gb B6 (by omega) (by omega) g7
        have s7 := Nat.le_trans s6 g7.size
        have hw7 := hw6.keep g7 (by omega) (apart_of hk6 (by decide))
        rw [← HTN.out, ← HVN.out] at HS
        clear hk6 B6 s6 g7 hw6
        go_wp2_with fail
        refine (dput_any w.heap.size _ tn _ hw7 (by omega) htn).mono ?_
        rintro e W8 ⟨rfl, hw8, g8⟩
        have B8 := bel_gb B7 (by omega) (Nat.le_refl _) g8
        have s8 := Nat.le_trans s7 g8.size
        have hk8 := hk7.keep g8 (by simp; omega)
        have hl8 : (xs ++ code tn).length ≤ xs.length + 68 := by rw [List.length_append, code_length]; have := csize_le tn; omega
        clear hk7 B7 s7 g8 hw7
        go_wp2_with fail
        refine (dput_any w.heap.size _ vn _ hw8 (by omega) hvn).mono ?_
        rintro e W9 ⟨rfl, hw9, g9⟩
        have B9 := bel_gb B8 (by omega) (Nat.le_refl _) g9
        have s9 := Nat.le_trans s8 g9.size
        have hk9 := hk8.keep g9 (by simp; omega)
        replace hw9 : WrAt W9 w.heap.size ys := by rw [HS.out]; exact hw9
        clear hk8 B8 s8 g9 hw8
        go_wp2
        go_roundw
        case rel => exact ⟨j + 1, by omega, by go_num, by rw [show j + 1 + 1 = j + 2 from rfl, HYS.out]; exact hw9, hk9, B9, s9⟩
        case measure => simp [intOf]; omega
      · obtain rfl : j = m := by omega
        obtain rfl : len = j + 1 := by omega
        generalize encTo z (j + 1) = xs at *
        go_wp2_with fail
        refine (bytes_any w.heap.size _ _ hw5 (by omega)).mono ?_
        rintro e W6 ⟨rfl, b6⟩
        have hw6 := hw5.keep_none (gb_below b6)
        have B6 := bel_gbn B5 (by omega) (gb_below b6)
        clear hw5 B5 b6 hk
        go_wp2_with fail
        refine (len_any w.heap.size _ _ hw6).mono ?_
        rintro e w' ⟨rfl, rfl⟩
        go_wp2
        go_ret2
        exact ⟨rfl, B6⟩

end Go.Proofs.Ytoanifeffegkiaa
