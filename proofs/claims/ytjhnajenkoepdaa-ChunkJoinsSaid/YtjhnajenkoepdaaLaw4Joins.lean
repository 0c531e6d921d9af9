/-
  The statement 'ChunkJoins' of layer 4: for every two rows of calls, two chunks whose times do not meet make one, if both's samples fit, with both's, and the second one is empty; else both stay as they were.
  No condition.
-/
import Derived.Test.YtjhnajenkoepdaaCBuild
import Derived.Test.YtjhnajenkoepdaaCApp
import Derived.ShutString
import Derived.ChangeOld
namespace Go.Proofs.Ytjhnajenkoepdaa
namespace chunkJoins
open Go.ChangeShapes Go.WideShapes Go.ChangeAt Go.RowKit
set_option linter.unusedVariables false
set_option linter.unusedSimpArgs false

theorem own : ownKnob Try.prog.godebug = none := by kernel_rfl
theorem laidOut : laidOutB Try.prog = true := by kernel_rfl

/-- Whether the second one's times are above the first one's: how it is found out. -/
def Way (x y : List (Int × Int)) (r : Bool) : Prop :=
  (x.length = 0 ∧ r = true) ∨ (0 < x.length ∧ y.length = 0 ∧ r = true) ∨ (0 < x.length ∧ 0 < y.length ∧ r = decide (tOf x (x.length - 1) < tOf y 0))
/-- What joining tells and leaves. -/
def Out (x y : List (Int × Int)) (r : Bool) (er : Int) : Prop :=
  (r = false ∧ er = 1) ∨ (r = true ∧ er = 2) ∨ (r = true ∧ er = 0 ∧ (usedL (x ++ y) : Int) ≤ 200)
theorem way_out (x y : List (Int × Int)) : ∃ r, Way x y r ∧ Out x y r (joinE 200 x y) := by
  cases hm : meetB x y
  · refine ⟨true, ?_, ?_⟩
    · unfold Way
      by_cases h1 : x.length = 0
      · exact .inl ⟨h1, rfl⟩
      · by_cases h2 : y.length = 0
        · exact .inr (.inl ⟨by omega, h2, rfl⟩)
        · refine .inr (.inr ⟨by omega, by omega, ?_⟩)
          have : ¬ meets x y := fun e => by rw [(meetB_iff x y).2 e] at hm; cases hm
          symm
          rw [decide_eq_true_iff]
          apply Classical.byContradiction
          intro h3
          exact this ⟨by omega, by omega, by omega⟩
    · unfold Out joinE tookE usedL
      rw [hm]
      by_cases h : 8 * 200 < (bitsZ (x ++ y) : Int)
      · rw [if_neg (by simp), if_pos h]; exact .inr (.inl ⟨rfl, rfl⟩)
      · rw [if_neg (by simp), if_neg h]; exact .inr (.inr ⟨rfl, rfl, by omega⟩)
  · obtain ⟨a, b, c⟩ := (meetB_iff x y).1 hm
    refine ⟨false, .inr (.inr ⟨a, b, ?_⟩), .inl ⟨rfl, by unfold joinE; rw [hm]; rfl⟩⟩
    symm
    rw [decide_eq_false_iff_not]; omega

set_option maxRecDepth 100000 in
set_option maxHeartbeats 40000000 in
theorem walk (a : Option Addr) (len cap : Nat) (za : List Cl) (a' : Option Addr) (len' cap' : Nat) (zb : List Cl) (w : World) (hza : OpsC w a len za) (hzb : OpsC w a' len' zb) :
    Calls Try.prog 7 #[.slice a len cap, .slice a' len' cap'] w fun e w' => e = .returned (.bool true) ∧ Below w.heap.size w w' := by
  have HA := Lib.hid hza
  have HB := Lib.hid hzb
  clear hza hzb
  go_enter Try.func7, Try.ntmps7
  go_wp2_with fail
  refine (cnew_at 200 w (by omega) (by omega)).mono ?_
  rintro e W0 ⟨rfl, p0, B0, n0⟩
  have n0' : w.heap.size < W0.heap.size := by omega
  clear n0
  generalize hb : w.heap.size = c at p0 n0' ⊢
  have HC := Lib.hid hb
  rw [hb] at B0
  clear hb
  go_wp2_with fail
  refine (cnew_at 200 W0 (by omega) (by omega)).mono ?_
  rintro e W1 ⟨rfl, q1, g, n1⟩
  have p1 : PCk W1 c 200 [] := CAt.keepB p0 g
  have B1 := bel_gbn B0 (Nat.le_of_lt n0') (gb_below g)
  have n1' : W0.heap.size < W1.heap.size := by omega
  clear g n1 p0 B0
  generalize W0.heap.size = d at *
  go_wp2_with fail
  refine (build_any c 200 a len cap c za w W1 HA.out HC.out (Nat.le_refl c) B1 (by omega) (by omega) p1).mono ?_
  rintro e W2 ⟨rfl, zc, p2, hrc, hlc, g⟩
  have q2 : PCk W2 d 200 [] := CAt.keep q1 g (by omega) (CAt.no p1 (by decide))
  have B2 := bel_gb B1 (by omega) (Nat.le_refl c) g
  have n2' := Nat.lt_of_lt_of_le n1' g.size
  clear g p1 q1 B1 n1'
  go_wp2_with fail
  refine (build_any d 200 a' len' cap' c zb w W2 HB.out HC.out (Nat.le_of_lt n0') B2 (by omega) (by omega) q2).mono ?_
  rintro e W3 ⟨rfl, zd, q3, hrd, hld, g⟩
  have p3 : PCk W3 c 200 zc := CAt.keep p2 g (by omega) (CAt.no q2 (by decide))
  have B3 := bel_gb B2 (by omega) (Nat.le_of_lt n0') g
  have n3' := Nat.lt_of_lt_of_le n2' g.size
  clear g p2 q2 B2 n2' HA HB
  go_wp2_with fail
  refine (all_ok c 200 zc W3 p3 (by omega) (by omega)).mono ?_
  rintro e W4 ⟨ax, cx, rfl, LX4, g⟩
  have p4 : PCk W4 c 200 zc := CAt.keepB p3 g
  have q4 : PCk W4 d 200 zd := CAt.keepB q3 g
  have B4 := bel_gbn B3 (by omega) (gb_below g)
  have n4' := Nat.lt_of_lt_of_le n3' g.size
  clear g p3 q3 B3 n3'
  go_wp2_with fail
  refine (all_ok d 200 zd W4 q4 (by omega) (by omega)).mono ?_
  rintro e W5 ⟨ay, cy, rfl, LY5, g⟩
  have p5 : PCk W5 c 200 zc := CAt.keepB p4 g
  have q5 : PCk W5 d 200 zd := CAt.keepB q4 g
  have LX5 := LX4.keepB g
  have B5 := bel_gbn B4 (by omega) (gb_below g)
  have n5' := Nat.lt_of_lt_of_le n4' g.size
  clear g p4 q4 B4 n4' LX4
  go_wp2_with fail
  refine (join_ok c d 200 200 zc zd W5 p5 q5 (by omega) (by omega) (by omega) (by omega) (by omega)).mono ?_
  rintro e W6 ⟨rfl, p6, q6, g⟩
  have HLX := Lib.hid (LX5.keep2 g (CAt.no p5 (by decide)) (CAt.no q5 (by decide)))
  have HLY := Lib.hid (LY5.keep2 g (CAt.no p5 (by decide)) (CAt.no q5 (by decide)))
  have B6 := bel_two B5 (by omega) (Nat.le_refl c) (Nat.le_of_lt n0') g
  have n6' := Nat.lt_of_lt_of_le n5' g.2.2.2.1
  clear g p5 q5 B5 n5' LX5 LY5
  obtain ⟨r, hway, hout⟩ := way_out zc zd
  have HL := Lib.hid (show joinL 200 zc zd = if joinE 200 zc zd = 0 then zc ++ zd else zc from rfl)
  have HRR := Lib.hid (show joinR 200 zc zd = if joinE 200 zc zd = 0 then [] else zd from rfl)
  have HWAY := Lib.hid hway
  clear hway
  rcases hout with ⟨hr, her⟩ | ⟨hr, her⟩ | ⟨hr, her, hus⟩
  · subst hr
    rw [HL.out, if_neg (by rw [her]; decide)] at p6
    rw [HRR.out, if_neg (by rw [her]; decide)] at q6
    rw [her]
    clear her HL HRR
    rcases HWAY.out with ⟨h1, h2⟩ | ⟨h1, h2, h3⟩ | ⟨h1, h2, h3⟩
    · cases h2
    · cases h3

    · have e0 : ((zc.length : Int) == 0) = false := by rw [beq_eq_false_iff_ne]; omega
      have e1 : ((zd.length : Int) == 0) = false := by rw [beq_eq_false_iff_ne]; omega
      obtain ⟨u, u', hu, _, x0, _⟩ := HLX.out.1.at_ (zc.length - 1) (by omega)
      obtain ⟨v, v', hv, _, y0, _⟩ := HLY.out.1.at_ 0 (by omega)
      rw [Nat.zero_mul, Nat.add_zero] at y0
      subst hu hv
      obtain ⟨k, hk⟩ : ∃ k, zc.length - 1 = k := ⟨_, rfl⟩
      rw [hk] at x0 h3
      have hw : IntKind.i64.wrap ((zc.length : Int) - 1) = (k : Int) := by rw [IntWalk.i64_in _ ⟨by omega, by omega⟩]; omega
      have hk0 : (0 : Int) ≤ (k : Int) := by omega
      have hk1 : (k : Int) < (zc.length : Int) := by omega
      have hz1 : (0 : Int) < (zd.length : Int) := by omega
      have hdec : decide (tOf zc k < tOf zd 0) = false := h3.symm
      clear hk h3
      generalize tOf zc k = t1 at *
      generalize tOf zd 0 = t2 at *
      go_wp2_with fail
      go_quiet (fail)
      have B7 := bel_gbn B6 (by omega) (Drew.gb (w := W6) (w' := W6.drewN nq) ⟨nq, rfl⟩ none)
      have n7' : d < (W6.drewN nq).heap.size := n6'
      have p7 : PCk (W6.drewN nq) c 200 zc := p6
      have q7 : PCk (W6.drewN nq) d 200 zd := q6
      have LX7 : Lst (W6.drewN nq) (some ⟨u, u', none⟩) zc.length cx zc := HLX.out
      have LY7 : Lst (W6.drewN nq) (some ⟨v, v', none⟩) zd.length cy zd := HLY.out
      clear B6 n6' p6 q6 HLX HLY
      generalize W6.drewN nq = W7 at *

      clear x0 y0
      go_wp2_with fail
      refine (all_ok c 200 zc W7 p7 (by omega) (by omega)).mono ?_
      rintro e W8 ⟨a8, c8, rfl, L8, g⟩
      have B8 := bel_gbn B7 (by omega) (gb_below g)
      have n8' := Nat.lt_of_lt_of_le n7' g.size
      have q8 : PCk W8 d 200 zd := CAt.keepB q7 g
      have LX8 := LX7.keepB g
      have LY8 := LY7.keepB g
      clear g B7 n7' p7 q7 LX7 LY7
      go_wp2_with fail
      refine (same_any a8 _ _ _ c8 cx zc zc W8 L8.1 LX8.1).mono ?_
      rintro e W9 ⟨rfl, dr⟩
      rw [decide_eq_true (rfl : zc = zc)]
      have g := dr.gb none
      have B9 := bel_gbn B8 (by omega) g
      have n9' := Nat.lt_of_lt_of_le n8' g.size
      have q9 : PCk W9 d 200 zd := CAt.keepN q8 g
      have LY9 := LY8.keepN g
      clear g dr B8 n8' q8 L8 LX8 LY8
      go_wp2_with fail
      refine (all_ok d 200 zd W9 q9 (by omega) (by omega)).mono ?_
      rintro e W10 ⟨a10, c10, rfl, L10, g⟩
      have B10 := bel_gbn B9 (by omega) (gb_below g)
      have n10' := Nat.lt_of_lt_of_le n9' g.size
      have LY10 := LY9.keepB g
      clear g B9 n9' q9 LY9
      go_wp2_with fail
      refine (same_any a10 _ _ _ c10 cy zd zd W10 L10.1 LY10.1).mono ?_
      rintro e W11 ⟨rfl, dr⟩
      rw [decide_eq_true (rfl : zd = zd)]
      have g := dr.gb none
      have B11 := bel_gbn B10 (by omega) g
      have n11' := Nat.lt_of_lt_of_le n10' g.size
      clear g dr B10 n10' L10 LY10
      go_wp2_with fail
      refine (cknown_any _).mono ?_
      rintro e W13 ⟨rfl, g⟩
      have B13 := bel_gbn B11 (by omega) (gb_below g)
      clear g
      go_wp2
      go_ret
      exact ⟨rfl, by rw [HC.out]; exact B13⟩
  · subst hr
    rw [HL.out, if_neg (by rw [her]; decide)] at p6
    rw [HRR.out, if_neg (by rw [her]; decide)] at q6
    rw [her]
    clear her HL HRR
    rcases HWAY.out with ⟨h1, h2⟩ | ⟨h1, h2, h3⟩ | ⟨h1, h2, h3⟩
    · have e0 : ((zc.length : Int) == 0) = true := by rw [h1]; rfl
      clear h2 h1
      go_wp2_with fail
      go_quiet (fail)
      have B7 := bel_gbn B6 (by omega) (Drew.gb (w := W6) (w' := W6.drewN nq) ⟨nq, rfl⟩ none)
      have n7' : d < (W6.drewN nq).heap.size := n6'
      have p7 : PCk (W6.drewN nq) c 200 zc := p6
      have q7 : PCk (W6.drewN nq) d 200 zd := q6
      have LX7 : Lst (W6.drewN nq) ax zc.length cx zc := HLX.out
      have LY7 : Lst (W6.drewN nq) ay zd.length cy zd := HLY.out
      clear B6 n6' p6 q6 HLX HLY
      generalize W6.drewN nq = W7 at *

      go_wp2_with fail
      refine (all_ok c 200 zc W7 p7 (by omega) (by omega)).mono ?_
      rintro e W8 ⟨a8, c8, rfl, L8, g⟩
      have B8 := bel_gbn B7 (by omega) (gb_below g)
      have n8' := Nat.lt_of_lt_of_le n7' g.size
      have q8 : PCk W8 d 200 zd := CAt.keepB q7 g
      have LX8 := LX7.keepB g
      have LY8 := LY7.keepB g
      clear g B7 n7' p7 q7 LX7 LY7
      go_wp2_with fail
      refine (same_any a8 _ _ _ c8 cx zc zc W8 L8.1 LX8.1).mono ?_
      rintro e W9 ⟨rfl, dr⟩
      rw [decide_eq_true (rfl : zc = zc)]
      have g := dr.gb none
      have B9 := bel_gbn B8 (by omega) g
      have n9' := Nat.lt_of_lt_of_le n8' g.size
      have q9 : PCk W9 d 200 zd := CAt.keepN q8 g
      have LY9 := LY8.keepN g
      clear g dr B8 n8' q8 L8 LX8 LY8
      go_wp2_with fail
      refine (all_ok d 200 zd W9 q9 (by omega) (by omega)).mono ?_
      rintro e W10 ⟨a10, c10, rfl, L10, g⟩
      have B10 := bel_gbn B9 (by omega) (gb_below g)
      have n10' := Nat.lt_of_lt_of_le n9' g.size
      have LY10 := LY9.keepB g
      clear g B9 n9' q9 LY9
      go_wp2_with fail
      refine (same_any a10 _ _ _ c10 cy zd zd W10 L10.1 LY10.1).mono ?_
      rintro e W11 ⟨rfl, dr⟩
      rw [decide_eq_true (rfl : zd = zd)]
      have g := dr.gb none
      have B11 := bel_gbn B10 (by omega) g
      have n11' := Nat.lt_of_lt_of_le n10' g.size
      clear g dr B10 n10' L10 LY10
      go_wp2_with fail
      refine (cknown_any _).mono ?_
      rintro e W13 ⟨rfl, g⟩
      have B13 := bel_gbn B11 (by omega) (gb_below g)
      clear g
      go_wp2
      go_ret
      exact ⟨rfl, by rw [HC.out]; exact B13⟩

    · have e0 : ((zc.length : Int) == 0) = false := by rw [beq_eq_false_iff_ne]; omega
      have e1 : ((zd.length : Int) == 0) = true := by rw [h2]; rfl
      clear h3 h2
      go_wp2_with fail
      go_quiet (fail)
      have B7 := bel_gbn B6 (by omega) (Drew.gb (w := W6) (w' := W6.drewN nq) ⟨nq, rfl⟩ none)
      have n7' : d < (W6.drewN nq).heap.size := n6'
      have p7 : PCk (W6.drewN nq) c 200 zc := p6
      have q7 : PCk (W6.drewN nq) d 200 zd := q6
      have LX7 : Lst (W6.drewN nq) ax zc.length cx zc := HLX.out
      have LY7 : Lst (W6.drewN nq) ay zd.length cy zd := HLY.out
      clear B6 n6' p6 q6 HLX HLY
      generalize W6.drewN nq = W7 at *

      go_wp2_with fail
      refine (all_ok c 200 zc W7 p7 (by omega) (by omega)).mono ?_
      rintro e W8 ⟨a8, c8, rfl, L8, g⟩
      have B8 := bel_gbn B7 (by omega) (gb_below g)
      have n8' := Nat.lt_of_lt_of_le n7' g.size
      have q8 : PCk W8 d 200 zd := CAt.keepB q7 g
      have LX8 := LX7.keepB g
      have LY8 := LY7.keepB g
      clear g B7 n7' p7 q7 LX7 LY7
      go_wp2_with fail
      refine (same_any a8 _ _ _ c8 cx zc zc W8 L8.1 LX8.1).mono ?_
      rintro e W9 ⟨rfl, dr⟩
      rw [decide_eq_true (rfl : zc = zc)]
      have g := dr.gb none
      have B9 := bel_gbn B8 (by omega) g
      have n9' := Nat.lt_of_lt_of_le n8' g.size
      have q9 : PCk W9 d 200 zd := CAt.keepN q8 g
      have LY9 := LY8.keepN g
      clear g dr B8 n8' q8 L8 LX8 LY8
      go_wp2_with fail
      refine (all_ok d 200 zd W9 q9 (by omega) (by omega)).mono ?_
      rintro e W10 ⟨a10, c10, rfl, L10, g⟩
      have B10 := bel_gbn B9 (by omega) (gb_below g)
      have n10' := Nat.lt_of_lt_of_le n9' g.size
      have LY10 := LY9.keepB g
      clear g B9 n9' q9 LY9
      go_wp2_with fail
      refine (same_any a10 _ _ _ c10 cy zd zd W10 L10.1 LY10.1).mono ?_
      rintro e W11 ⟨rfl, dr⟩
      rw [decide_eq_true (rfl : zd = zd)]
      have g := dr.gb none
      have B11 := bel_gbn B10 (by omega) g
      have n11' := Nat.lt_of_lt_of_le n10' g.size
      clear g dr B10 n10' L10 LY10
      go_wp2_with fail
      refine (cknown_any _).mono ?_
      rintro e W13 ⟨rfl, g⟩
      have B13 := bel_gbn B11 (by omega) (gb_below g)
      clear g
      go_wp2
      go_ret
      exact ⟨rfl, by rw [HC.out]; exact B13⟩

    · have e0 : ((zc.length : Int) == 0) = false := by rw [beq_eq_false_iff_ne]; omega
      have e1 : ((zd.length : Int) == 0) = false := by rw [beq_eq_false_iff_ne]; omega
      obtain ⟨u, u', hu, _, x0, _⟩ := HLX.out.1.at_ (zc.length - 1) (by omega)
      obtain ⟨v, v', hv, _, y0, _⟩ := HLY.out.1.at_ 0 (by omega)
      rw [Nat.zero_mul, Nat.add_zero] at y0
      subst hu hv
      obtain ⟨k, hk⟩ : ∃ k, zc.length - 1 = k := ⟨_, rfl⟩
      rw [hk] at x0 h3
      have hw : IntKind.i64.wrap ((zc.length : Int) - 1) = (k : Int) := by rw [IntWalk.i64_in _ ⟨by omega, by omega⟩]; omega
      have hk0 : (0 : Int) ≤ (k : Int) := by omega
      have hk1 : (k : Int) < (zc.length : Int) := by omega
      have hz1 : (0 : Int) < (zd.length : Int) := by omega
      have hdec : decide (tOf zc k < tOf zd 0) = true := h3.symm
      clear hk h3
      generalize tOf zc k = t1 at *
      generalize tOf zd 0 = t2 at *
      go_wp2_with fail
      go_quiet (fail)
      have B7 := bel_gbn B6 (by omega) (Drew.gb (w := W6) (w' := W6.drewN nq) ⟨nq, rfl⟩ none)
      have n7' : d < (W6.drewN nq).heap.size := n6'
      have p7 : PCk (W6.drewN nq) c 200 zc := p6
      have q7 : PCk (W6.drewN nq) d 200 zd := q6
      have LX7 : Lst (W6.drewN nq) (some ⟨u, u', none⟩) zc.length cx zc := HLX.out
      have LY7 : Lst (W6.drewN nq) (some ⟨v, v', none⟩) zd.length cy zd := HLY.out
      clear B6 n6' p6 q6 HLX HLY
      generalize W6.drewN nq = W7 at *

      clear x0 y0
      go_wp2_with fail
      refine (all_ok c 200 zc W7 p7 (by omega) (by omega)).mono ?_
      rintro e W8 ⟨a8, c8, rfl, L8, g⟩
      have B8 := bel_gbn B7 (by omega) (gb_below g)
      have n8' := Nat.lt_of_lt_of_le n7' g.size
      have q8 : PCk W8 d 200 zd := CAt.keepB q7 g
      have LX8 := LX7.keepB g
      have LY8 := LY7.keepB g
      clear g B7 n7' p7 q7 LX7 LY7
      go_wp2_with fail
      refine (same_any a8 _ _ _ c8 cx zc zc W8 L8.1 LX8.1).mono ?_
      rintro e W9 ⟨rfl, dr⟩
      rw [decide_eq_true (rfl : zc = zc)]
      have g := dr.gb none
      have B9 := bel_gbn B8 (by omega) g
      have n9' := Nat.lt_of_lt_of_le n8' g.size
      have q9 : PCk W9 d 200 zd := CAt.keepN q8 g
      have LY9 := LY8.keepN g
      clear g dr B8 n8' q8 L8 LX8 LY8
      go_wp2_with fail
      refine (all_ok d 200 zd W9 q9 (by omega) (by omega)).mono ?_
      rintro e W10 ⟨a10, c10, rfl, L10, g⟩
      have B10 := bel_gbn B9 (by omega) (gb_below g)
      have n10' := Nat.lt_of_lt_of_le n9' g.size
      have LY10 := LY9.keepB g
      clear g B9 n9' q9 LY9
      go_wp2_with fail
      refine (same_any a10 _ _ _ c10 cy zd zd W10 L10.1 LY10.1).mono ?_
      rintro e W11 ⟨rfl, dr⟩
      rw [decide_eq_true (rfl : zd = zd)]
      have g := dr.gb none
      have B11 := bel_gbn B10 (by omega) g
      have n11' := Nat.lt_of_lt_of_le n10' g.size
      clear g dr B10 n10' L10 LY10
      go_wp2_with fail
      refine (cknown_any _).mono ?_
      rintro e W13 ⟨rfl, g⟩
      have B13 := bel_gbn B11 (by omega) (gb_below g)
      clear g
      go_wp2
      go_ret
      exact ⟨rfl, by rw [HC.out]; exact B13⟩
  · subst hr
    have HU := Lib.hid hus
    rw [HL.out, if_pos her] at p6
    rw [HRR.out, if_pos her] at q6
    rw [her]
    clear her hus HL HRR
    rcases HWAY.out with ⟨h1, h2⟩ | ⟨h1, h2, h3⟩ | ⟨h1, h2, h3⟩
    · have e0 : ((zc.length : Int) == 0) = true := by rw [h1]; rfl
      clear h2 h1
      go_wp2_with fail
      go_quiet (fail)
      have B7 := bel_gbn B6 (by omega) (Drew.gb (w := W6) (w' := W6.drewN nq) ⟨nq, rfl⟩ none)
      have n7' : d < (W6.drewN nq).heap.size := n6'
      have p7 : PCk (W6.drewN nq) c 200 (zc ++ zd) := p6
      have q7 : PCk (W6.drewN nq) d 200 [] := q6
      have LX7 : Lst (W6.drewN nq) ax zc.length cx zc := HLX.out
      have LY7 : Lst (W6.drewN nq) ay zd.length cy zd := HLY.out
      clear B6 n6' p6 q6 HLX HLY
      generalize W6.drewN nq = W7 at *

      go_wp2_with fail
      refine (all_ok c 200 (zc ++ zd) W7 p7 (by omega) (by rw [List.length_append]; omega)).mono ?_
      rintro e W8 ⟨a8, c8, rfl, L8, g⟩
      have B8 := bel_gbn B7 (by omega) (gb_below g)
      have n8' := Nat.lt_of_lt_of_le n7' g.size
      have p8 : PCk W8 c 200 (zc ++ zd) := CAt.keepB p7 g
      have q8 : PCk W8 d 200 [] := CAt.keepB q7 g
      have LX8 := LX7.keepB g
      have LY8 := LY7.keepB g
      clear g B7 n7' p7 q7 LX7 LY7
      have ge := (Below.refl W8.heap.size W8).alloc (Nat.le_refl _) (.cells #[] 31)
      have oe := owns_empty W8 W8.heap.size (Nat.le_refl _)
      have se : W8.heap.size ≤ (W8.alloc (.cells #[] 31)).heap.size := by simp
      have LXe := LX8.keepB ge
      obtain ⟨N, hN⟩ : ∃ N, (zc ++ zd).length = N := ⟨_, rfl⟩
      have HN := Lib.hid hN
      have hN2 : zc.length + zd.length = N := by rw [← hN, List.length_append]
      have HN2 := Lib.hid hN2
      rw [hN]
      clear hN hN2
      simp only []
      go_wp2_with (at_builtin; (refine wpList_append_lst ?_ (.tmp 76) (.tmp 77) rfl W8.heap.size _ 0 [] rfl rfl oe _ zc.length cx zc rfl LXe (by omega) se ?_))
      intro v1 W9 o1 g1
      have b9 := ge.grown g1 se (fun k hk => (oe.lt k hk).1)
      have LY9 := LY8.keepB b9
      have s9 : W8.heap.size ≤ W9.heap.size := b9.size
      clear ge oe g1 se LXe LX8
      go_wp2_with (at_builtin; (refine wpList_append_lst ?_ (.tmp 78) (.tmp 79) rfl W8.heap.size _ zc.length zc rfl rfl o1 _ zd.length cy zd rfl LY9 (by omega) s9 ?_))
      intro v2 W10 o2 g2
      have b10 := b9.grown g2 s9 (fun k hk => (o1.lt k hk).1)
      have B10 := bel_gbn B8 (by omega) (gb_below b10)
      have n10' := Nat.lt_of_lt_of_le n8' b10.size
      have p10 : PCk W10 c 200 (zc ++ zd) := CAt.keepB p8 b10
      have q10 : PCk W10 d 200 [] := CAt.keepB q8 b10
      have L10 := L8.keepB b10
      rw [HN.out] at L10
      rw [HN2.out] at o2
      have h64 := p10.all64
      obtain ⟨ad, cp, rfl, sa, _⟩ := owns_samps (z := zc ++ zd) h64 (by rw [HN.out]; have := HN2.out; omega) (by rw [HN.out]; exact o2)
      rw [HN.out] at sa ⊢
      clear o1 o2 g2 b9 b10 LY8 LY9 s9 B8 n8' p8 q8 L8
      go_wp2_with fail
      refine (same_any a8 ad N N c8 cp (zc ++ zd) (zc ++ zd) W10 L10.1 sa).mono ?_
      rintro e W11 ⟨rfl, dr⟩
      rw [decide_eq_true (rfl : zc ++ zd = zc ++ zd)]
      have g := dr.gb none
      have B11 := bel_gbn B10 (by omega) g
      have n11' := Nat.lt_of_lt_of_le n10' g.size
      have p11 : PCk W11 c 200 (zc ++ zd) := CAt.keepN p10 g
      have q11 : PCk W11 d 200 [] := CAt.keepN q10 g
      clear g dr B10 n10' p10 q10 L10 sa
      go_wp2_with fail
      refine (len_ok d 200 [] W11 q11 (by omega)).mono ?_
      rintro e w' ⟨rfl, rfl⟩
      go_wp2_with fail
      refine (used_ok c 200 (zc ++ zd) W11 p11 (by omega) (by rw [List.length_append]; omega)).mono ?_
      rintro e W12 ⟨rfl, g⟩
      have B12 := bel_gbn B11 (by omega) (gb_below g)
      have n12' := Nat.lt_of_lt_of_le n11' g.size
      have hu := HU.out
      clear g B11 n11' p11 q11 h64
      generalize usedL (zc ++ zd) = us at *
      go_wp2_with fail
      refine (cknown_any _).mono ?_
      rintro e W13 ⟨rfl, g⟩
      have B13 := bel_gbn B12 (by omega) (gb_below g)
      clear g
      go_wp2
      go_ret
      exact ⟨rfl, by rw [HC.out]; exact B13⟩

    · have e0 : ((zc.length : Int) == 0) = false := by rw [beq_eq_false_iff_ne]; omega
      have e1 : ((zd.length : Int) == 0) = true := by rw [h2]; rfl
      clear h3 h2
      go_wp2_with fail
      go_quiet (fail)
      have B7 := bel_gbn B6 (by omega) (Drew.gb (w := W6) (w' := W6.drewN nq) ⟨nq, rfl⟩ none)
      have n7' : d < (W6.drewN nq).heap.size := n6'
      have p7 : PCk (W6.drewN nq) c 200 (zc ++ zd) := p6
      have q7 : PCk (W6.drewN nq) d 200 [] := q6
      have LX7 : Lst (W6.drewN nq) ax zc.length cx zc := HLX.out
      have LY7 : Lst (W6.drewN nq) ay zd.length cy zd := HLY.out
      clear B6 n6' p6 q6 HLX HLY
      generalize W6.drewN nq = W7 at *

      go_wp2_with fail
      refine (all_ok c 200 (zc ++ zd) W7 p7 (by omega) (by rw [List.length_append]; omega)).mono ?_
      rintro e W8 ⟨a8, c8, rfl, L8, g⟩
      have B8 := bel_gbn B7 (by omega) (gb_below g)
      have n8' := Nat.lt_of_lt_of_le n7' g.size
      have p8 : PCk W8 c 200 (zc ++ zd) := CAt.keepB p7 g
      have q8 : PCk W8 d 200 [] := CAt.keepB q7 g
      have LX8 := LX7.keepB g
      have LY8 := LY7.keepB g
      clear g B7 n7' p7 q7 LX7 LY7
      have ge := (Below.refl W8.heap.size W8).alloc (Nat.le_refl _) (.cells #[] 31)
      have oe := owns_empty W8 W8.heap.size (Nat.le_refl _)
      have se : W8.heap.size ≤ (W8.alloc (.cells #[] 31)).heap.size := by simp
      have LXe := LX8.keepB ge
      obtain ⟨N, hN⟩ : ∃ N, (zc ++ zd).length = N := ⟨_, rfl⟩
      have HN := Lib.hid hN
      have hN2 : zc.length + zd.length = N := by rw [← hN, List.length_append]
      have HN2 := Lib.hid hN2
      rw [hN]
      clear hN hN2
      simp only []
      go_wp2_with (at_builtin; (refine wpList_append_lst ?_ (.tmp 76) (.tmp 77) rfl W8.heap.size _ 0 [] rfl rfl oe _ zc.length cx zc rfl LXe (by omega) se ?_))
      intro v1 W9 o1 g1
      have b9 := ge.grown g1 se (fun k hk => (oe.lt k hk).1)
      have LY9 := LY8.keepB b9
      have s9 : W8.heap.size ≤ W9.heap.size := b9.size
      clear ge oe g1 se LXe LX8
      go_wp2_with (at_builtin; (refine wpList_append_lst ?_ (.tmp 78) (.tmp 79) rfl W8.heap.size _ zc.length zc rfl rfl o1 _ zd.length cy zd rfl LY9 (by omega) s9 ?_))
      intro v2 W10 o2 g2
      have b10 := b9.grown g2 s9 (fun k hk => (o1.lt k hk).1)
      have B10 := bel_gbn B8 (by omega) (gb_below b10)
      have n10' := Nat.lt_of_lt_of_le n8' b10.size
      have p10 : PCk W10 c 200 (zc ++ zd) := CAt.keepB p8 b10
      have q10 : PCk W10 d 200 [] := CAt.keepB q8 b10
      have L10 := L8.keepB b10
      rw [HN.out] at L10
      rw [HN2.out] at o2
      have h64 := p10.all64
      obtain ⟨ad, cp, rfl, sa, _⟩ := owns_samps (z := zc ++ zd) h64 (by rw [HN.out]; have := HN2.out; omega) (by rw [HN.out]; exact o2)
      rw [HN.out] at sa ⊢
      clear o1 o2 g2 b9 b10 LY8 LY9 s9 B8 n8' p8 q8 L8
      go_wp2_with fail
      refine (same_any a8 ad N N c8 cp (zc ++ zd) (zc ++ zd) W10 L10.1 sa).mono ?_
      rintro e W11 ⟨rfl, dr⟩
      rw [decide_eq_true (rfl : zc ++ zd = zc ++ zd)]
      have g := dr.gb none
      have B11 := bel_gbn B10 (by omega) g
      have n11' := Nat.lt_of_lt_of_le n10' g.size
      have p11 : PCk W11 c 200 (zc ++ zd) := CAt.keepN p10 g
      have q11 : PCk W11 d 200 [] := CAt.keepN q10 g
      clear g dr B10 n10' p10 q10 L10 sa
      go_wp2_with fail
      refine (len_ok d 200 [] W11 q11 (by omega)).mono ?_
      rintro e w' ⟨rfl, rfl⟩
      go_wp2_with fail
      refine (used_ok c 200 (zc ++ zd) W11 p11 (by omega) (by rw [List.length_append]; omega)).mono ?_
      rintro e W12 ⟨rfl, g⟩
      have B12 := bel_gbn B11 (by omega) (gb_below g)
      have n12' := Nat.lt_of_lt_of_le n11' g.size
      have hu := HU.out
      clear g B11 n11' p11 q11 h64
      generalize usedL (zc ++ zd) = us at *
      go_wp2_with fail
      refine (cknown_any _).mono ?_
      rintro e W13 ⟨rfl, g⟩
      have B13 := bel_gbn B12 (by omega) (gb_below g)
      clear g
      go_wp2
      go_ret
      exact ⟨rfl, by rw [HC.out]; exact B13⟩

    · have e0 : ((zc.length : Int) == 0) = false := by rw [beq_eq_false_iff_ne]; omega
      have e1 : ((zd.length : Int) == 0) = false := by rw [beq_eq_false_iff_ne]; omega
      obtain ⟨u, u', hu, _, x0, _⟩ := HLX.out.1.at_ (zc.length - 1) (by omega)
      obtain ⟨v, v', hv, _, y0, _⟩ := HLY.out.1.at_ 0 (by omega)
      rw [Nat.zero_mul, Nat.add_zero] at y0
      subst hu hv
      obtain ⟨k, hk⟩ : ∃ k, zc.length - 1 = k := ⟨_, rfl⟩
      rw [hk] at x0 h3
      have hw : IntKind.i64.wrap ((zc.length : Int) - 1) = (k : Int) := by rw [IntWalk.i64_in _ ⟨by omega, by omega⟩]; omega
      have hk0 : (0 : Int) ≤ (k : Int) := by omega
      have hk1 : (k : Int) < (zc.length : Int) := by omega
      have hz1 : (0 : Int) < (zd.length : Int) := by omega
      have hdec : decide (tOf zc k < tOf zd 0) = true := h3.symm
      clear hk h3
      generalize tOf zc k = t1 at *
      generalize tOf zd 0 = t2 at *
      go_wp2_with fail
      go_quiet (fail)
      have B7 := bel_gbn B6 (by omega) (Drew.gb (w := W6) (w' := W6.drewN nq) ⟨nq, rfl⟩ none)
      have n7' : d < (W6.drewN nq).heap.size := n6'
      have p7 : PCk (W6.drewN nq) c 200 (zc ++ zd) := p6
      have q7 : PCk (W6.drewN nq) d 200 [] := q6
      have LX7 : Lst (W6.drewN nq) (some ⟨u, u', none⟩) zc.length cx zc := HLX.out
      have LY7 : Lst (W6.drewN nq) (some ⟨v, v', none⟩) zd.length cy zd := HLY.out
      clear B6 n6' p6 q6 HLX HLY
      generalize W6.drewN nq = W7 at *

      clear x0 y0
      go_wp2_with fail
      refine (all_ok c 200 (zc ++ zd) W7 p7 (by omega) (by rw [List.length_append]; omega)).mono ?_
      rintro e W8 ⟨a8, c8, rfl, L8, g⟩
      have B8 := bel_gbn B7 (by omega) (gb_below g)
      have n8' := Nat.lt_of_lt_of_le n7' g.size
      have p8 : PCk W8 c 200 (zc ++ zd) := CAt.keepB p7 g
      have q8 : PCk W8 d 200 [] := CAt.keepB q7 g
      have LX8 := LX7.keepB g
      have LY8 := LY7.keepB g
      clear g B7 n7' p7 q7 LX7 LY7
      have ge := (Below.refl W8.heap.size W8).alloc (Nat.le_refl _) (.cells #[] 31)
      have oe := owns_empty W8 W8.heap.size (Nat.le_refl _)
      have se : W8.heap.size ≤ (W8.alloc (.cells #[] 31)).heap.size := by simp
      have LXe := LX8.keepB ge
      obtain ⟨N, hN⟩ : ∃ N, (zc ++ zd).length = N := ⟨_, rfl⟩
      have HN := Lib.hid hN
      have hN2 : zc.length + zd.length = N := by rw [← hN, List.length_append]
      have HN2 := Lib.hid hN2
      rw [hN]
      clear hN hN2
      simp only []
      go_wp2_with (at_builtin; (refine wpList_append_lst ?_ (.tmp 76) (.tmp 77) rfl W8.heap.size _ 0 [] rfl rfl oe _ zc.length cx zc rfl LXe (by omega) se ?_))
      intro v1 W9 o1 g1
      have b9 := ge.grown g1 se (fun k hk => (oe.lt k hk).1)
      have LY9 := LY8.keepB b9
      have s9 : W8.heap.size ≤ W9.heap.size := b9.size
      clear ge oe g1 se LXe LX8
      go_wp2_with (at_builtin; (refine wpList_append_lst ?_ (.tmp 78) (.tmp 79) rfl W8.heap.size _ zc.length zc rfl rfl o1 _ zd.length cy zd rfl LY9 (by omega) s9 ?_))
      intro v2 W10 o2 g2
      have b10 := b9.grown g2 s9 (fun k hk => (o1.lt k hk).1)
      have B10 := bel_gbn B8 (by omega) (gb_below b10)
      have n10' := Nat.lt_of_lt_of_le n8' b10.size
      have p10 : PCk W10 c 200 (zc ++ zd) := CAt.keepB p8 b10
      have q10 : PCk W10 d 200 [] := CAt.keepB q8 b10
      have L10 := L8.keepB b10
      rw [HN.out] at L10
      rw [HN2.out] at o2
      have h64 := p10.all64
      obtain ⟨ad, cp, rfl, sa, _⟩ := owns_samps (z := zc ++ zd) h64 (by rw [HN.out]; have := HN2.out; omega) (by rw [HN.out]; exact o2)
      rw [HN.out] at sa ⊢
      clear o1 o2 g2 b9 b10 LY8 LY9 s9 B8 n8' p8 q8 L8
      go_wp2_with fail
      refine (same_any a8 ad N N c8 cp (zc ++ zd) (zc ++ zd) W10 L10.1 sa).mono ?_
      rintro e W11 ⟨rfl, dr⟩
      rw [decide_eq_true (rfl : zc ++ zd = zc ++ zd)]
      have g := dr.gb none
      have B11 := bel_gbn B10 (by omega) g
      have n11' := Nat.lt_of_lt_of_le n10' g.size
      have p11 : PCk W11 c 200 (zc ++ zd) := CAt.keepN p10 g
      have q11 : PCk W11 d 200 [] := CAt.keepN q10 g
      clear g dr B10 n10' p10 q10 L10 sa
      go_wp2_with fail
      refine (len_ok d 200 [] W11 q11 (by omega)).mono ?_
      rintro e w' ⟨rfl, rfl⟩
      go_wp2_with fail
      refine (used_ok c 200 (zc ++ zd) W11 p11 (by omega) (by rw [List.length_append]; omega)).mono ?_
      rintro e W12 ⟨rfl, g⟩
      have B12 := bel_gbn B11 (by omega) (gb_below g)
      have n12' := Nat.lt_of_lt_of_le n11' g.size
      have hu := HU.out
      clear g B11 n11' p11 q11 h64
      generalize usedL (zc ++ zd) = us at *
      go_wp2_with fail
      refine (cknown_any _).mono ?_
      rintro e W13 ⟨rfl, g⟩
      have B13 := bel_gbn B12 (by omega) (gb_below g)
      clear g
      go_wp2
      go_ret
      exact ⟨rfl, by rw [HC.out]; exact B13⟩

set_option maxRecDepth 100000 in
theorem lifted (os : Os) (started : os.Started) (H : Type) (enc : TypeId × Value → H) :
    ReturnsInHanded {} Try.checked os 7 .any (Rows.chunkJoinsSpec.pre6 enc Try.prog Try.f7 Rows.chunkJoinsRow.domain false) (Rows.chunkJoinsSpec.post enc Try.prog Try.f7 false true false false) := by
  refine returnsInHanded_of_change (C := Try.checked) own started (by kernel_rfl) Try.func7
    (ChangeSpec.witness6 (enc := enc) (C := Try.checked) false ⟨#[], #[.slice none 0 0, .slice none 0 0], []⟩ 8 (by kernel_rfl) (by kernel_rfl) (by kernel_rfl) (by kernel_rfl)) ?_
  intro W base args ds gs before hval0 hW hcnd _
  have hval : ∀ (j : Nat) t v, Try.f7.params[j]? = some t → args[j]? = some v → Value.okWide Try.prog W .any base t v := hval0
  have hW' := hW
  obtain ⟨p, q, hA0, hV, rfl, hfz, hnd⟩ := hW
  have hA : DataW.TrodAll enc Try.prog W 0 (fun _ => true) true Try.f7.params.toList args.toList ds p := hA0
  rw [Try.params7] at hA hval
  obtain ⟨v0, vs0, d0, ds0, p0, q0, hargs, rfl, rfl, h0, r0⟩ := trodAll_cons hA
  obtain ⟨v1, vs1, d1, ds1, p1, q1, rfl, rfl, rfl, h1, r1⟩ := trodAll_cons r0
  obtain ⟨rfl, rfl, rfl⟩ := trodAll_nil r1
  obtain rfl : args = #[v0, v1] := by cases args; simp_all
  obtain ⟨rfl, rfl⟩ := trodVars_none hV
  obtain ⟨a0, len0, cap0, rfl⟩ := okWide_slice Try.underlying22 (hval 0 22 v0 rfl rfl)
  have k0 := h0
  have lt0 : ∀ x ∈ p0, x.block < W.heap.size := by obtain ⟨m, hm⟩ := k0; exact DataW.trod_lt m _ _ _ hm
  obtain ⟨z0, w0⟩ := open_cops h0
  obtain ⟨a1, len1, cap1, rfl⟩ := okWide_slice Try.underlying22 (hval 1 22 v1 rfl rfl)
  have k1 := h1
  have lt1 : ∀ x ∈ p1, x.block < W.heap.size := by obtain ⟨m, hm⟩ := k1; exact DataW.trod_lt m _ _ _ hm
  obtain ⟨z1, w1⟩ := open_cops h1
  clear hA0 hval0
  refine (walk a0 len0 cap0 z0 a1 len1 cap1 z1 W w0 w1).mono fun e W' ⟨he, bel⟩ => ?_
  subst he
  exact ⟨_, rfl, _, _, _, [], _, [], hW', trodAll_mk1 (shut_bool Try.underlying4 _), (trodAll_cons_mk (Below.trod laidOut (by kernel_rfl) (of_decide_eq_true (by kernel_rfl)) k0 bel lt0) (trodAll_cons_mk (Below.trod laidOut (by kernel_rfl) (of_decide_eq_true (by kernel_rfl)) k1 bel lt1) trodAll_mk0)), rfl, bel.frame _, fun h => by cases h⟩

theorem over : Rows.chunkJoinsRow.holds Try.pinned (OpenSpec.ofChange Rows.chunkJoinsSpec) :=
  OpenClaim.holds_of_wide 7 Try.f7 rfl rfl rfl rfl rfl rfl rfl ⟨rfl, rfl, rfl, rfl, rfl⟩ rfl rfl rfl rfl rfl (by kernel_rfl) Try.func7 (by kernel_rfl)
    (of_decide_eq_true (by kernel_rfl)) (by unfold Func.isWrapper; first | (rw [if_pos (by decide +kernel)]; kernel_rfl) | (rw [if_neg (by decide +kernel)]; exact ⟨rfl, rfl⟩))
    (fun os started H enc _ => lifted os started H enc)

theorem proved : Rows.ChunkJoinsSaid := over
end chunkJoins
theorem chunkJoins_holds : Rows.ChunkJoinsSaid := chunkJoins.proved
#print axioms chunkJoins_holds
end Go.Proofs.Ytjhnajenkoepdaa
