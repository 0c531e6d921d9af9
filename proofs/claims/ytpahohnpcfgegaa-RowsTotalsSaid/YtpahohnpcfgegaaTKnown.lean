/-
  Contract of law07's known.
-/
import Derived.Test.YtpahohnpcfgegaaTTell
import Derived.Test.YtpahohnpcfgegaaRSame
namespace Go.Proofs.Ytpahohnpcfgegaa
open Go.RowKit
set_option linter.unusedVariables false
set_option linter.unusedSimpArgs false

instance (z : List (Int × Int)) : Decidable (okT z) := inferInstanceAs (Decidable (∀ u ∈ z, 0 ≤ u.1 ∧ u.1 ≤ 1099511627776))
instance (n : Int) : Decidable (in64 n) := inferInstanceAs (Decidable (_ ∧ _))
instance (z : List (Int × Int)) : Decidable (All64 z) := inferInstanceAs (Decidable (∀ x ∈ z, in64 x.1 ∧ in64 x.2))
def G1 : List (Int × Int) := [(1, 5), (4, -2), (35, 7)]
def GA : List (Int × Int) := [(0, 3), (10, 0), (20, 0), (30, 7)]
def GB : List (Int × Int) := [(35, 7), (4, -2)]
def GC : List (Int × Int) := [(35, 7)]
def G2 : List (Int × Int) := [(0, 0), (20000, 0)]
def G3 : List (Int × Int) := [(0, 4), (23, 9)]
def GD : List (Int × Int) := [(0, 4), (3, 4), (13, 4), (23, 9)]
def Q0 : Qry := ⟨0, 0, false, 0, 0, 0, 0, false, [], false, 0, 0⟩
def QA : Qry := ⟨0, 100, false, 0, 1, 10, 0, true, [], false, 0, 0⟩
def QB : Qry := ⟨0, 100, true, 2, 0, 0, 0, false, [], false, 0, 0⟩
def QCC : Qry := ⟨2, 100, false, 0, 0, 0, 0, false, [4, 35], true, 0, 9⟩
def QD : Qry := ⟨0, 0, false, 0, 0, 0, 0, true, [], false, 0, 0⟩
def Q5 : Qry := ⟨0, 5, false, 0, 0, 0, 0, false, [], false, 0, 0⟩
set_option maxRecDepth 100000 in
theorem ka : tellR QA G1 = (GA, 0) := by decide
theorem kb : tellR QB G1 = (GB, 0) := by decide
theorem kc : tellR QCC G1 = (GC, 0) := by decide
theorem kd : tellR QD G1 = ([], 1) := by decide
theorem ke : fillR 1 1 0 G2 = ([], 13) := by
  have h : okF 1 1 0 G2 := by decide
  have hl : (fillP 1 1 0 G2 G2.length).length = 20001 - 0 := by
    show (fillP 1 1 0 G2 2).length = _
    rw [fillP_succ, fillP_succ, gapAt_last (j := 1) (by decide), gapAt_some (v := 0) (j := 0) (by decide) (by decide)]
    simp only [fillP, List.length_append, gapL_len, List.length_singleton, List.length_nil]
    have : cntG 1 (endB (tOf G2 0) 1 0) (tOf G2 (0 + 1)) = 19999 := by decide
    rw [this]
  unfold fillR
  rw [if_pos h, if_pos (by rw [hl]; omega)]
theorem kf : fillR 6 10 3 G3 = (GD, 0) := by decide
theorem kg : errR Q0 = 0 := by decide
theorem kp1 : passB Q5 (1, 5) = true := by decide
theorem kp2 : passB Q5 (35, 7) = false := by decide
theorem int_none (w : World) : IntAt w none 0 0 [] := ⟨rfl, Nat.le_refl _, by omega, by simp, .inl rfl⟩
theorem int_lit {W : World} {b : Nat} {x y : Int} {t : TypeId} (h : W.heap[b]? = some (.cells #[.int .i64 x, .int .i64 y] t (0, 0))) (hx : in64 x) (hy : in64 y) : IntAt W (some ⟨b, 0, none⟩) 2 2 [x, y] := by
  refine ⟨rfl, Nat.le_refl _, by omega, ?_, .inr ⟨b, 0, rfl, heap_lt h, fun i hi => ?_⟩⟩
  · intro u hu
    simp at hu
    rcases hu with rfl | rfl <;> assumption
  · rw [cell_of h]
    match i, hi with
    | 0, _ => rfl
    | 1, _ => rfl

set_option maxRecDepth 100000 in
set_option maxHeartbeats 8000000 in
theorem tknown_any (w : World) :
    Calls Try.prog 9 #[] w fun e w' => e = .returned (.bool true) ∧ Below w.heap.size w w' := by
  go_enter Try.func9, Try.ntmps9
  go_wp2_with fail
  have L1 : SampAt (w.alloc (.cells #[.int .i64 1, .int .i64 5, .int .i64 4, .int .i64 (-2), .int .i64 35, .int .i64 7] 27)) (some ⟨w.heap.size, 0, none⟩) 3 3 G1 := samp_lit (z := G1) (heap_new w _) rfl (by decide) (by decide)
  have B1 := (Below.refl w.heap.size w).alloc (Nat.le_refl _) (.cells #[.int .i64 1, .int .i64 5, .int .i64 4, .int .i64 (-2), .int .i64 35, .int .i64 7] 27)
  generalize w.alloc (.cells #[.int .i64 1, .int .i64 5, .int .i64 4, .int .i64 (-2), .int .i64 35, .int .i64 7] 27) = W1 at *
  generalize hx : w.heap.size = x at *
  have HX := Lib.hid hx
  clear hx
  have T := tell_any QA none 0 0 _ 3 3 G1 W1 L1 (int_none _) (by omega)
  rw [ka] at T
  refine T.mono ?_
  clear T
  rintro e W2 ⟨a1, n1, c1, rfl, S1, b2⟩
  have B2 := B1.trans (b2.mono (by have := B1.size; have := HX.out; omega))
  have L2 := L1.keep b2
  clear L1 B1 b2
  go_wp2_with fail
  have T := tell_any QB none 0 0 _ 3 3 G1 W2 L2 (int_none _) (by omega)
  rw [kb] at T
  refine T.mono ?_
  clear T
  rintro e W3 ⟨a2, n2, c2, rfl, S2, b3⟩
  have B3 := B2.trans (b3.mono (by have := B2.size; have := HX.out; omega))
  have L3 := L2.keep b3
  replace S1 := S1.keep b3
  clear L2 B2 b3
  go_wp2_with fail
  have I4 := int_lit (heap_new W3 (.cells #[.int .i64 4, .int .i64 35] 3)) (by decide) (by decide)
  have b4 := (Below.refl W3.heap.size W3).alloc (Nat.le_refl _) (.cells #[.int .i64 4, .int .i64 35] 3)
  have B4 := B3.trans (b4.mono (by have := B3.size; have := HX.out; omega))
  have L4 := L3.keep b4
  replace S1 := S1.keep b4
  replace S2 := S2.keep b4
  clear L3 B3 b4
  generalize W3.alloc (.cells #[.int .i64 4, .int .i64 35] 3) = W4 at *
  generalize W3.heap.size = x3 at *
  have T := tell_any QCC _ 2 2 _ 3 3 G1 W4 L4 I4 (by omega)
  rw [kc] at T
  refine T.mono ?_
  clear T
  rintro e W5 ⟨a3, n3, c3, rfl, S3, b5⟩
  have B5 := B4.trans (b5.mono (by have := B4.size; have := HX.out; omega))
  have L5 := L4.keep b5
  replace S1 := S1.keep b5
  replace S2 := S2.keep b5
  clear L4 B4 b5 I4
  go_wp2_with fail
  have T := tell_any QD none 0 0 _ 3 3 G1 W5 L5 (int_none _) (by omega)
  rw [kd] at T
  refine T.mono ?_
  clear T
  rintro e W6 ⟨a4, n4, c4, rfl, S4, b6⟩
  have B6 := B5.trans (b6.mono (by have := B5.size; have := HX.out; omega))
  have L6 := L5.keep b6
  replace S1 := S1.keep b6
  replace S2 := S2.keep b6
  replace S3 := S3.keep b6
  clear L5 B5 b6 S4
  go_wp2_with fail
  have F7 : SampAt (W6.alloc (.cells #[.int .i64 0, .int .i64 0, .int .i64 20000, .int .i64 0] 27)) (some ⟨W6.heap.size, 0, none⟩) 2 2 G2 := samp_lit (z := G2) (heap_new W6 _) rfl (by decide) (by decide)
  have b7 := (Below.refl W6.heap.size W6).alloc (Nat.le_refl _) (.cells #[.int .i64 0, .int .i64 0, .int .i64 20000, .int .i64 0] 27)
  have B7 := B6.trans (b7.mono (by have := B6.size; have := HX.out; omega))
  have L7 := L6.keep b7
  replace S1 := S1.keep b7
  replace S2 := S2.keep b7
  replace S3 := S3.keep b7
  clear L6 B6 b7
  generalize W6.alloc (.cells #[.int .i64 0, .int .i64 0, .int .i64 20000, .int .i64 0] 27) = W7 at *
  generalize W6.heap.size = x6 at *
  have T := fill_any 1 1 0 _ 2 2 G2 W7 F7 (by omega)
  rw [ke] at T
  refine T.mono ?_
  clear T
  rintro e W8 ⟨v8, rfl, _, b8⟩
  have B8 := B7.trans (b8.mono (by have := B7.size; have := HX.out; omega))
  have L8 := L7.keep b8
  replace S1 := S1.keep b8
  replace S2 := S2.keep b8
  replace S3 := S3.keep b8
  clear L7 B7 b8 F7
  go_wp2_with fail
  have F9 : SampAt (W8.alloc (.cells #[.int .i64 0, .int .i64 4, .int .i64 23, .int .i64 9] 27)) (some ⟨W8.heap.size, 0, none⟩) 2 2 G3 := samp_lit (z := G3) (heap_new W8 _) rfl (by decide) (by decide)
  have b9 := (Below.refl W8.heap.size W8).alloc (Nat.le_refl _) (.cells #[.int .i64 0, .int .i64 4, .int .i64 23, .int .i64 9] 27)
  have B9 := B8.trans (b9.mono (by have := B8.size; have := HX.out; omega))
  have L9 := L8.keep b9
  replace S1 := S1.keep b9
  replace S2 := S2.keep b9
  replace S3 := S3.keep b9
  clear L8 B8 b9
  generalize W8.alloc (.cells #[.int .i64 0, .int .i64 4, .int .i64 23, .int .i64 9] 27) = W9 at *
  generalize W8.heap.size = x8 at *
  have T := fill_any 6 10 3 _ 2 2 G3 W9 F9 (by omega)
  rw [kf] at T
  refine T.mono ?_
  clear T
  rintro e WA ⟨v10, rfl, o10, bA⟩
  have BA := B9.trans (bA.mono (by have := B9.size; have := HX.out; omega))
  have LA := L9.keep bA
  replace S1 := S1.keep bA
  replace S2 := S2.keep bA
  replace S3 := S3.keep bA
  obtain ⟨ad, cp, rfl, S5⟩ := row_samp (z := GD) (by decide) (by decide) o10
  rw [show GD.length = 4 from rfl] at *
  clear L9 B9 bA F9 o10
  go_wp2_with fail
  have F1 : SampAt (WA.alloc (.cells #[.int .i64 0, .int .i64 3, .int .i64 10, .int .i64 0, .int .i64 20, .int .i64 0, .int .i64 30, .int .i64 7] 27)) (some ⟨WA.heap.size, 0, none⟩) 4 4 GA := samp_lit (z := GA) (heap_new WA _) rfl (by decide) (by decide)
  have bB := (Below.refl WA.heap.size WA).alloc (Nat.le_refl _) (.cells #[.int .i64 0, .int .i64 3, .int .i64 10, .int .i64 0, .int .i64 20, .int .i64 0, .int .i64 30, .int .i64 7] 27)
  have BB := BA.trans (bB.mono (by have := BA.size; have := HX.out; omega))
  replace S1 := S1.keep bB
  replace S2 := S2.keep bB
  replace S3 := S3.keep bB
  replace S5 := S5.keep bB
  have LB := LA.keep bB
  clear LA BA bB
  generalize WA.alloc (.cells #[.int .i64 0, .int .i64 3, .int .i64 10, .int .i64 0, .int .i64 20, .int .i64 0, .int .i64 30, .int .i64 7] 27) = WB at *
  generalize WA.heap.size = xa at *
  refine (same_any _ _ _ _ _ _ GA GA WB S1 F1).mono ?_
  rintro e WC ⟨rfl, dd⟩
  rw [decide_eq_true (rfl : GA = GA)]
  have bC := dd.below
  have BC := BB.trans (bC.mono (by have := BB.size; have := HX.out; omega))
  replace S2 := S2.keep bC
  replace S3 := S3.keep bC
  replace S5 := S5.keep bC
  have LC := LB.keep bC
  clear LB BB bC dd S1 F1
  go_wp2_with fail
  have F2 : SampAt (WC.alloc (.cells #[.int .i64 35, .int .i64 7, .int .i64 4, .int .i64 (-2)] 27)) (some ⟨WC.heap.size, 0, none⟩) 2 2 GB := samp_lit (z := GB) (heap_new WC _) rfl (by decide) (by decide)
  have bD := (Below.refl WC.heap.size WC).alloc (Nat.le_refl _) (.cells #[.int .i64 35, .int .i64 7, .int .i64 4, .int .i64 (-2)] 27)
  have BD := BC.trans (bD.mono (by have := BC.size; have := HX.out; omega))
  replace S2 := S2.keep bD
  replace S3 := S3.keep bD
  replace S5 := S5.keep bD
  have LD := LC.keep bD
  clear LC BC bD
  generalize WC.alloc (.cells #[.int .i64 35, .int .i64 7, .int .i64 4, .int .i64 (-2)] 27) = WD at *
  generalize WC.heap.size = xc at *
  refine (same_any _ _ _ _ _ _ GB GB WD S2 F2).mono ?_
  rintro e WE ⟨rfl, dd⟩
  rw [decide_eq_true (rfl : GB = GB)]
  have bE := dd.below
  have BE := BD.trans (bE.mono (by have := BD.size; have := HX.out; omega))
  replace S3 := S3.keep bE
  replace S5 := S5.keep bE
  have LE := LD.keep bE
  have LG : SampAt WE (some ⟨x, 4, none⟩) 1 1 GC := by
    obtain ⟨p, o, ha, hp, hall⟩ := LE.all (by omega)
    cases ha
    obtain ⟨y0, y1⟩ := hall 2 (by omega)
    refine ⟨rfl, by omega, by omega, by decide, .inr ⟨x, 4, rfl, hp, fun i hi => ?_⟩⟩
    obtain rfl : i = 0 := by simp [GC] at hi; exact hi
    exact ⟨y0, y1⟩
  clear LD BD bE dd S2 F2
  go_wp2_with fail
  refine (same_any _ _ _ _ _ _ GC GC WE S3 LG).mono ?_
  rintro e WF ⟨rfl, dd⟩
  rw [decide_eq_true (rfl : GC = GC)]
  have bF := dd.below
  have BF := BE.trans (bF.mono (by have := BE.size; have := HX.out; omega))
  replace S5 := S5.keep bF
  have LF := LE.keep bF
  clear LE BE bF dd S3 LG
  go_wp2_with fail
  have F3 : SampAt (WF.alloc (.cells #[.int .i64 0, .int .i64 4, .int .i64 3, .int .i64 4, .int .i64 13, .int .i64 4, .int .i64 23, .int .i64 9] 27)) (some ⟨WF.heap.size, 0, none⟩) 4 4 GD := samp_lit (z := GD) (heap_new WF _) rfl (by decide) (by decide)
  have bG := (Below.refl WF.heap.size WF).alloc (Nat.le_refl _) (.cells #[.int .i64 0, .int .i64 4, .int .i64 3, .int .i64 4, .int .i64 13, .int .i64 4, .int .i64 23, .int .i64 9] 27)
  have BG := BF.trans (bG.mono (by have := BF.size; have := HX.out; omega))
  replace S5 := S5.keep bG
  have LG := LF.keep bG
  clear LF BF bG
  generalize WF.alloc (.cells #[.int .i64 0, .int .i64 4, .int .i64 3, .int .i64 4, .int .i64 13, .int .i64 4, .int .i64 23, .int .i64 9] 27) = WG at *
  generalize WF.heap.size = xf at *
  refine (same_any _ _ _ _ _ _ GD GD WG S5 F3).mono ?_
  rintro e WH ⟨rfl, dd⟩
  rw [decide_eq_true (rfl : GD = GD)]
  have bH := dd.below
  have BH := BG.trans (bH.mono (by have := BG.size; have := HX.out; omega))
  have LH := LG.keep bH
  clear LG BG bH dd S5 F3
  go_wp2_with fail
  refine (right_any Q0 none 0 0 WH rfl (by omega)).mono ?_
  rintro e WI ⟨rfl, bI⟩
  rw [kg]
  have BI := BH.trans (bI.mono (by have := BH.size; have := HX.out; omega))
  obtain ⟨p, o, ha, hp, hall⟩ := (LH.keep bI).all (by omega)
  cases ha
  obtain ⟨x0, x1⟩ := hall 0 (by omega)
  obtain ⟨y0, y1⟩ := hall 2 (by omega)
  replace x0 : WI.cell? ⟨x, 0, none⟩ = some (.int .i64 1) := x0
  replace x1 : WI.cell? ⟨x, 1, none⟩ = some (.int .i64 5) := x1
  replace y0 : WI.cell? ⟨x, 4, none⟩ = some (.int .i64 35) := y0
  replace y1 : WI.cell? ⟨x, 5, none⟩ = some (.int .i64 7) := y1
  clear BH bI LH hall
  go_wp2_with fail
  refine (pass_any Q5 none 0 0 (1, 5) WI (int_none _)).mono ?_
  rintro e WJ ⟨rfl, bJ⟩
  rw [kp1]
  have BJ := BI.trans (bJ.mono (by have := BI.size; have := HX.out; omega))
  rw [← bJ.cell hp] at y0 y1
  clear BI bJ x0 x1
  go_wp2_with fail
  refine (pass_any Q5 none 0 0 (35, 7) WJ (int_none _)).mono ?_
  rintro e WK ⟨rfl, bK⟩
  rw [kp2]
  have BK := BJ.trans (bK.mono (by have := BJ.size; have := HX.out; omega))
  clear BJ bK y0 y1
  go_wp2
  go_ret
  exact ⟨rfl, by rw [HX.out]; exact BK⟩

end Go.Proofs.Ytpahohnpcfgegaa
