/-
  Contract of the statements' own 'same' of layer 4: the program's chunk and the document's with the same size and samples are told to be the same.
  Condition: at most 900 samples.
-/
import Derived.Test.YtjhnajenkoepdaaCRPut
import Derived.Test.YtjhnajenkoepdaaRSame
import Derived.Test.YtjhnajenkoepdaaCEnds
namespace Go.Proofs.Ytjhnajenkoepdaa
open Go.RowKit
set_option linter.unusedVariables false
set_option linter.unusedSimpArgs false

set_option maxRecDepth 100000 in
set_option maxHeartbeats 8000000 in
theorem csame_ok (b q : Nat) (sz : Int) (z : List (Int × Int)) (w : World) (hp : PCk w b sz z) (hq : RCk w q sz z) (hs : 1 ≤ sz) (hn : z.length ≤ 900) :
    Calls Try.prog 15 #[.pointer (some ⟨b, 0, none⟩), .pointer (some ⟨q, 0, none⟩)] w (BoolP true w) := by
  have hqw := CAt.lt hq
  have HP0 := Lib.hid hp
  have HQ0 := Lib.hid hq
  clear hp hq
  obtain ⟨T0, hT0⟩ : ∃ T0, tOf z 0 = T0 := ⟨_, rfl⟩
  obtain ⟨V0, hV0⟩ : ∃ V0, vOf z 0 = V0 := ⟨_, rfl⟩
  obtain ⟨T1, hT1⟩ : ∃ T1, tOf z (z.length - 1) = T1 := ⟨_, rfl⟩
  obtain ⟨V1, hV1⟩ : ∃ V1, vOf z (z.length - 1) = V1 := ⟨_, rfl⟩
  obtain ⟨rr, hrr⟩ : ∃ rr, decide (0 < z.length) = rr := ⟨_, rfl⟩
  have HT0 := Lib.hid hT0
  have HV0 := Lib.hid hV0
  have HT1 := Lib.hid hT1
  have HV1 := Lib.hid hV1
  have HRR := Lib.hid hrr
  clear hT0 hV0 hT1 hV1 hrr
  go_enter Try.func15, Try.ntmps15
  go_wp2_with fail
  refine (first_ok b sz z w HP0.out hs (by omega)).mono ?_
  rintro e W1 ⟨rfl, b1⟩
  rw [HT0.out, HV0.out, HRR.out]
  have ga := World.grownBy_alloc W1 (.cells #[.int .i64 T0, .int .i64 V0] 31) none
  have HX2 := Lib.hid (heap_new W1 (.cells #[.int .i64 T0, .int .i64 V0] 31))
  have B2 := bel_gbn b1 b1.size ga
  have HP2 : Hid (PCk (W1.alloc (.cells #[.int .i64 T0, .int .i64 V0] 31)) b sz z) := Lib.hid (CAt.keepB HP0.out B2)
  have s2 : W1.heap.size < (W1.alloc (.cells #[.int .i64 T0, .int .i64 V0] 31)).heap.size := by simp
  have sw : w.heap.size ≤ W1.heap.size := b1.size
  clear b1 ga
  go_wp2_with fail
  generalize W1.alloc (.cells #[.int .i64 T0, .int .i64 V0] 31) = W2 at *
  generalize W1.heap.size = kx at *
  refine (last_ok b sz z W2 HP2.out hs (by omega)).mono ?_
  rintro e W3 ⟨rfl, b3⟩
  rw [HT1.out, HV1.out, HRR.out]
  have ga := World.grownBy_alloc W3 (.cells #[.int .i64 T1, .int .i64 V1] 31) none
  have HY4 := Lib.hid (heap_new W3 (.cells #[.int .i64 T1, .int .i64 V1] 31))
  have g4 := gb_trans (gb_below (row := none) b3) ga
  have B4 := bel_gbn B2 (by omega) g4
  have HX4 := Lib.hid ((g4.block kx s2 (by simp)).trans HX2.out)
  have s4 : W3.heap.size < (W3.alloc (.cells #[.int .i64 T1, .int .i64 V1] 31)).heap.size := by simp
  have sw3 : w.heap.size ≤ W3.heap.size := by have := b3.size; omega
  have HP4 : Hid (PCk (W3.alloc (.cells #[.int .i64 T1, .int .i64 V1] 31)) b sz z) := Lib.hid (CAt.keepB HP0.out B4)
  have HQ4 : Hid (RCk (W3.alloc (.cells #[.int .i64 T1, .int .i64 V1] 31)) q sz z) := Lib.hid (CAt.keepB HQ0.out B4)
  clear b3 ga g4 B2 HX2 HP2 s2 HP0 HQ0
  obtain ⟨a, cap, hcq, hlq⟩ := HQ4.out
  have HCQ := Lib.hid hcq
  have HLQ := Lib.hid hlq
  clear hcq hlq
  have q1 : (W3.alloc (.cells #[.int .i64 T1, .int .i64 V1] 31)).cell? ⟨q, 1, none⟩ = some (.slice a z.length cap) := by rw [cell_of HCQ.out]; rfl
  go_wp2_with fail
  generalize W3.alloc (.cells #[.int .i64 T1, .int .i64 V1] 31) = W4 at *
  generalize W3.heap.size = ky at *
  have x0 : W4.cell? ⟨kx, 0, none⟩ = some (.int .i64 T0) := by rw [cell_of HX4.out]; rfl
  have x1 : W4.cell? ⟨kx, 1, none⟩ = some (.int .i64 V0) := by rw [cell_of HX4.out]; rfl
  have y0 : W4.cell? ⟨ky, 0, none⟩ = some (.int .i64 T1) := by rw [cell_of HY4.out]; rfl
  have y1 : W4.cell? ⟨ky, 1, none⟩ = some (.int .i64 V1) := by rw [cell_of HY4.out]; rfl
  by_cases h0 : 0 < z.length
  · obtain ⟨u, u', hu, hub, r0, r1⟩ := HLQ.out.1.at_ 0 h0
    obtain ⟨v, v', hv, _, l0, l1⟩ := HLQ.out.1.at_ (z.length - 1) (by omega)
    rw [hu] at hv
    cases hv
    rw [Nat.zero_mul, Nat.add_zero] at r0 r1
    rw [HT0.out] at r0
    rw [HV0.out] at r1
    rw [HT1.out] at l0
    rw [HV1.out] at l1
    subst hu
    have hrt : rr = true := by rw [← HRR.out]; exact decide_eq_true h0
    subst hrt
    obtain ⟨k, hk⟩ : ∃ k, z.length - 1 = k := ⟨_, rfl⟩
    rw [hk] at l0 l1
    have hw : IntKind.i64.wrap ((z.length : Int) - 1) = (k : Int) := by rw [IntWalk.i64_in _ ⟨by omega, by omega⟩]; omega
    have hk0 : (0 : Int) ≤ (k : Int) := by omega
    have hk1 : (k : Int) < (z.length : Int) := by omega
    have hz1 : (0 : Int) < (z.length : Int) := by omega
    have e0 : decide (0 < (z.length : Int)) = true := decide_eq_true hz1
    have e1 : ((z.length : Int) == 0) = false := by rw [beq_eq_false_iff_ne]; omega
    have c1 : (T0 == T0) = true := by simp
    have c2 : (V0 == V0) = true := by simp
    have c3 : (T1 == T1) = true := by simp
    have c4 : (V1 == V1) = true := by simp
    clear hk
    go_wp2_with fail
    go_quiet (fail)
    clear x0 x1 y0 y1 q1 r0 r1 l0 l1 hw e0 e1 c1 c2 c3 c4
    have d5 : Drew W4 (W4.drewN nq) := ⟨nq, rfl⟩
    have B5 := bel_gbn B4 (by omega) (d5.gb none)
    have HP5 : Hid (PCk (W4.drewN nq) b sz z) := HP4
    have HC5 : Hid ((W4.drewN nq).heap[q]? = _) := HCQ
    have HL5 : Hid (Lst (W4.drewN nq) (some ⟨u, u', none⟩) z.length cap z) := HLQ
    have s5 : w.heap.size ≤ (W4.drewN nq).heap.size := by have := (d5.gb none).size; omega
    clear d5 B4 HP4 HQ4 HCQ HLQ HX4 HY4
    generalize W4.drewN nq = W5 at *
    have HPD : Hid (PCk W5.drew b sz z) := HP5
    have HQD0 : Hid (RCk W5 q sz z) := Lib.hid ⟨(some ⟨u, u', none⟩), cap, HC5.out, HL5.out⟩
    have HQD : Hid (RCk W5.drew q sz z) := HQD0
    have hq5 : q < W5.heap.size := by omega
    have q0 : W5.cell? ⟨q, 0, none⟩ = some (.int .i64 sz) := by rw [cell_of HC5.out]; rfl
    have q1 : W5.cell? ⟨q, 1, none⟩ = some (.slice (some ⟨u, u', none⟩) z.length cap) := by rw [cell_of HC5.out]; rfl
    have HQ0 := Lib.hid q0
    have HQ1 := Lib.hid q1
    have eN : ((z.length : Int) == (z.length : Int)) = true := by simp
    have eU : (((usedL z : Nat) : Int) == ((usedL z : Nat) : Int)) = true := by simp
    have eS : (sz == sz) = true := by simp
    go_wp2_with fail
    go_region_held3 (fun w' => w'.cell? ⟨q, 0, none⟩ = some (.int .i64 sz) ∧ w'.cell? ⟨q, 1, none⟩ = some (.slice (some ⟨u, u', none⟩) z.length cap))
      (first
        | exact ⟨k6.out, m6.out⟩
        | exact ⟨k7.out, m7.out⟩
        | exact ⟨k9.out, m9.out⟩
        | exact ⟨k10.out, m10.out⟩
        | go_keep)
      (first
        | (go_at_call 18
           (with_reducible refine (all_ok b sz z _ HPD.out hs (by omega)).mono ?_)
           rintro e W6 ⟨a6, c6, rfl, L6, b6⟩
           have p6 : Hid (PCk W6 b sz z) := Lib.hid (CAt.keepB HPD.out b6)
           have t6 : Hid (RCk W6 q sz z) := Lib.hid (CAt.keepB HQD.out b6)
           have k6 := Lib.hid ((b6.cell (p := ⟨q, 0, none⟩) (by simpa using hq5)).trans HQ0.out)
           have m6 := Lib.hid ((b6.cell (p := ⟨q, 1, none⟩) (by simpa using hq5)).trans HQ1.out)
           have l6 := Lst.keepB (w := W5.drew) (w' := W6) HL5.out b6
           have h6a : SampAt W6 a6 z.length c6 z := L6.1
           have h6b : SampAt W6 (some ⟨u, u', none⟩) z.length cap z := l6.1)
        | (go_at_call 20
           (with_reducible refine (same_any a6 (some ⟨u, u', none⟩) z.length z.length c6 cap z z W6 h6a h6b).mono ?_)
           rintro e W7 ⟨rfl, dr⟩
           rw [decide_eq_true (rfl : z = z)]
           have p7 : Hid (PCk W7 b sz z) := Lib.hid (CAt.keepN p6.out (dr.gb none))
           have t7 : Hid (RCk W7 q sz z) := Lib.hid (CAt.keepN t6.out (dr.gb none))
           have g7 := dr.gb none
           have k7 := Lib.hid (((gb_below_none g7).cell (p := ⟨q, 0, none⟩) (CAt.lt t6.out)).trans k6.out)
           have m7 := Lib.hid (((gb_below_none g7).cell (p := ⟨q, 1, none⟩) (CAt.lt t6.out)).trans m6.out))
        | (go_at_call 21
           (with_reducible refine (len_ok b sz z W7 p7.out hs).mono ?_)
           rintro e w' ⟨rfl, rfl⟩)
        | (go_at_call 22
           (with_reducible refine (used_ok b sz z W7 p7.out hs (by omega)).mono ?_)
           rintro e W9 ⟨rfl, b9⟩
           have p9 : Hid (PCk W9 b sz z) := Lib.hid (CAt.keepB p7.out b9)
           have t9 : Hid (RCk W9 q sz z) := Lib.hid (CAt.keepB t7.out b9)
           have k9 := Lib.hid ((b9.cell (p := ⟨q, 0, none⟩) (CAt.lt t7.out)).trans k7.out)
           have m9 := Lib.hid ((b9.cell (p := ⟨q, 1, none⟩) (CAt.lt t7.out)).trans m7.out))
        | (go_at_call 39
           (with_reducible refine (rused_ok q sz z W9 t9.out (by omega)).mono ?_)
           rintro e W10 ⟨rfl, b10⟩
           have p10 : Hid (PCk W10 b sz z) := Lib.hid (CAt.keepB p9.out b10)
           have k10 := Lib.hid ((b10.cell (p := ⟨q, 0, none⟩) (CAt.lt t9.out)).trans k9.out)
           have m10 := Lib.hid ((b10.cell (p := ⟨q, 1, none⟩) (CAt.lt t9.out)).trans m9.out))
        | (go_at_call 23
           (with_reducible refine (size_ok b sz z W10 p10.out).mono ?_)
           rintro e w' ⟨rfl, rfl⟩))
    have g6 : W5.grownBy W6 none := gb_trans (Drew.gb (w := W5) (w' := W5.drew) ⟨1, rfl⟩ none) (gb_below b6)
    have G10 := gb_trans (gb_trans (gb_trans g6 g7) (gb_below b9)) (gb_below b10)
    have B10 := bel_gbn B5 s5 G10
    clear g6 g7 G10 b6 b9 b10 dr q0 q1
    go_wp2
    go_ret
    exact ⟨rfl, B10⟩
  · obtain rfl : z = [] := List.eq_nil_of_length_eq_zero (by omega)
    have hT0 : T0 = 0 := HT0.out.symm
    have hV0 : V0 = 0 := HV0.out.symm
    have hT1 : T1 = 0 := HT1.out.symm
    have hV1 : V1 = 0 := HV1.out.symm
    subst hT0 hV0 hT1 hV1
    have hrf : rr = false := HRR.out.symm
    subst hrf
    clear h0
    generalize hz0 : ([] : List (Int × Int)) = z at *
    have e0 : decide (0 < (z.length : Int)) = false := by rw [← hz0]; rfl
    have e1 : ((z.length : Int) == 0) = true := by rw [← hz0]; rfl
    have e0' : decide (0 < z.length) = false := by rw [← hz0]; rfl
    have e2 : ¬ 0 < z.length := by rw [← hz0]; simp
    have e3 : ¬ (0 : Int) < (z.length : Int) := by rw [← hz0]; simp
    clear hz0
    go_wp2_with fail
    go_quiet (fail)
    clear x0 x1 y0 y1 q1 e0 e1 e0' e2 e3
    have d5 : Drew W4 (W4.drewN nq) := ⟨nq, rfl⟩
    have B5 := bel_gbn B4 (by omega) (d5.gb none)
    have HP5 : Hid (PCk (W4.drewN nq) b sz z) := HP4
    have HC5 : Hid ((W4.drewN nq).heap[q]? = _) := HCQ
    have HL5 : Hid (Lst (W4.drewN nq) a z.length cap z) := HLQ
    have s5 : w.heap.size ≤ (W4.drewN nq).heap.size := by have := (d5.gb none).size; omega
    clear d5 B4 HP4 HQ4 HCQ HLQ HX4 HY4
    generalize W4.drewN nq = W5 at *
    have HPD : Hid (PCk W5.drew b sz z) := HP5
    have HQD0 : Hid (RCk W5 q sz z) := Lib.hid ⟨a, cap, HC5.out, HL5.out⟩
    have HQD : Hid (RCk W5.drew q sz z) := HQD0
    have hq5 : q < W5.heap.size := by omega
    have q0 : W5.cell? ⟨q, 0, none⟩ = some (.int .i64 sz) := by rw [cell_of HC5.out]; rfl
    have q1 : W5.cell? ⟨q, 1, none⟩ = some (.slice a z.length cap) := by rw [cell_of HC5.out]; rfl
    have HQ0 := Lib.hid q0
    have HQ1 := Lib.hid q1
    have eN : ((z.length : Int) == (z.length : Int)) = true := by simp
    have eU : (((usedL z : Nat) : Int) == ((usedL z : Nat) : Int)) = true := by simp
    have eS : (sz == sz) = true := by simp
    go_wp2_with fail
    go_region_held3 (fun w' => w'.cell? ⟨q, 0, none⟩ = some (.int .i64 sz) ∧ w'.cell? ⟨q, 1, none⟩ = some (.slice a z.length cap))
      (first
        | exact ⟨k6.out, m6.out⟩
        | exact ⟨k7.out, m7.out⟩
        | exact ⟨k9.out, m9.out⟩
        | exact ⟨k10.out, m10.out⟩
        | go_keep)
      (first
        | (go_at_call 18
           (with_reducible refine (all_ok b sz z _ HPD.out hs (by omega)).mono ?_)
           rintro e W6 ⟨a6, c6, rfl, L6, b6⟩
           have p6 : Hid (PCk W6 b sz z) := Lib.hid (CAt.keepB HPD.out b6)
           have t6 : Hid (RCk W6 q sz z) := Lib.hid (CAt.keepB HQD.out b6)
           have k6 := Lib.hid ((b6.cell (p := ⟨q, 0, none⟩) (by simpa using hq5)).trans HQ0.out)
           have m6 := Lib.hid ((b6.cell (p := ⟨q, 1, none⟩) (by simpa using hq5)).trans HQ1.out)
           have l6 := Lst.keepB (w := W5.drew) (w' := W6) HL5.out b6
           have h6a : SampAt W6 a6 z.length c6 z := L6.1
           have h6b : SampAt W6 a z.length cap z := l6.1)
        | (go_at_call 20
           (with_reducible refine (same_any a6 a z.length z.length c6 cap z z W6 h6a h6b).mono ?_)
           rintro e W7 ⟨rfl, dr⟩
           rw [decide_eq_true (rfl : z = z)]
           have p7 : Hid (PCk W7 b sz z) := Lib.hid (CAt.keepN p6.out (dr.gb none))
           have t7 : Hid (RCk W7 q sz z) := Lib.hid (CAt.keepN t6.out (dr.gb none))
           have g7 := dr.gb none
           have k7 := Lib.hid (((gb_below_none g7).cell (p := ⟨q, 0, none⟩) (CAt.lt t6.out)).trans k6.out)
           have m7 := Lib.hid (((gb_below_none g7).cell (p := ⟨q, 1, none⟩) (CAt.lt t6.out)).trans m6.out))
        | (go_at_call 21
           (with_reducible refine (len_ok b sz z W7 p7.out hs).mono ?_)
           rintro e w' ⟨rfl, rfl⟩)
        | (go_at_call 22
           (with_reducible refine (used_ok b sz z W7 p7.out hs (by omega)).mono ?_)
           rintro e W9 ⟨rfl, b9⟩
           have p9 : Hid (PCk W9 b sz z) := Lib.hid (CAt.keepB p7.out b9)
           have t9 : Hid (RCk W9 q sz z) := Lib.hid (CAt.keepB t7.out b9)
           have k9 := Lib.hid ((b9.cell (p := ⟨q, 0, none⟩) (CAt.lt t7.out)).trans k7.out)
           have m9 := Lib.hid ((b9.cell (p := ⟨q, 1, none⟩) (CAt.lt t7.out)).trans m7.out))
        | (go_at_call 39
           (with_reducible refine (rused_ok q sz z W9 t9.out (by omega)).mono ?_)
           rintro e W10 ⟨rfl, b10⟩
           have p10 : Hid (PCk W10 b sz z) := Lib.hid (CAt.keepB p9.out b10)
           have k10 := Lib.hid ((b10.cell (p := ⟨q, 0, none⟩) (CAt.lt t9.out)).trans k9.out)
           have m10 := Lib.hid ((b10.cell (p := ⟨q, 1, none⟩) (CAt.lt t9.out)).trans m9.out))
        | (go_at_call 23
           (with_reducible refine (size_ok b sz z W10 p10.out).mono ?_)
           rintro e w' ⟨rfl, rfl⟩))
    have g6 : W5.grownBy W6 none := gb_trans (Drew.gb (w := W5) (w' := W5.drew) ⟨1, rfl⟩ none) (gb_below b6)
    have G10 := gb_trans (gb_trans (gb_trans g6 g7) (gb_below b9)) (gb_below b10)
    have B10 := bel_gbn B5 s5 G10
    clear g6 g7 G10 b6 b9 b10 dr q0 q1
    go_wp2
    go_ret
    exact ⟨rfl, B10⟩

end Go.Proofs.Ytjhnajenkoepdaa
