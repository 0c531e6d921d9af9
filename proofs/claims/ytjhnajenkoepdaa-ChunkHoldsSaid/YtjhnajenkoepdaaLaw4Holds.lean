/-
  The statement 'ChunkHolds' of layer 4: for every size and every samples, a chunk has room for as many samples as seven, of any times and values; what is full is as it was.
  No condition.
-/
import Derived.Test.YtjhnajenkoepdaaCKnown
import Derived.ShutString
import Derived.ChangeOld
namespace Go.Proofs.Ytjhnajenkoepdaa
namespace chunkHolds
open Go.ChangeShapes Go.WideShapes Go.ChangeAt Go.RowKit
set_option linter.unusedVariables false
set_option linter.unusedSimpArgs false

theorem own : ownKnob Try.prog.godebug = none := by kernel_rfl
theorem laidOut : laidOutB Try.prog = true := by kernel_rfl

theorem fits_used (sz : Int) (z : List (Int × Int)) (h : (bitsZ z : Int) ≤ 8 * sz) : (usedL z : Int) ≤ sz := by unfold usedL; omega
/-- What a sample that comes by the policy Block leaves: an error, a list, what was got ahead. -/
def RoundIs (sz : Int) (z : List (Int × Int)) (T V : Int) (er ge : Int) (l : List (Int × Int)) : Prop :=
  putL sz z T V 1 = (er, l) ∧ (∃ x, getL z T = (x, ge)) ∧ (bitsZ l : Int) ≤ 8 * sz
theorem round_cases (sz : Int) (hs : 128 ≤ sz) (z : List (Int × Int)) (hr : Rising z) (hf : (bitsZ z : Int) ≤ 8 * sz) (T V : Int) :
    ((T < 0 ∨ 1099511627776 ≤ T) ∧ RoundIs sz z T V 1 0 z) ∨ ((T < 0 ∨ 1099511627776 ≤ T) ∧ RoundIs sz z T V 1 5 z) ∨
    ((0 ≤ T ∧ T < 1099511627776) ∧ RoundIs sz z T V 8 0 z) ∨ ((0 ≤ T ∧ T < 1099511627776) ∧ RoundIs sz z T V 2 5 z ∧ 7 ≤ z.length) ∨
    ((0 ≤ T ∧ T < 1099511627776) ∧ ∃ l, RoundIs sz z T V 0 5 l ∧ l.length = z.length + 1) := by
  by_cases hT : T < 0 ∨ 1099511627776 ≤ T
  · have hp : putL sz z T V 1 = (1, z) := by unfold putL; rw [if_pos hT]
    by_cases hat : bef z T < upt z T
    · exact .inl ⟨hT, hp, ⟨_, by unfold getL; rw [if_pos hat]⟩, hf⟩
    · exact .inr (.inl ⟨hT, hp, ⟨_, by unfold getL; rw [if_neg hat]⟩, hf⟩)
  · have hT' : 0 ≤ T ∧ T < 1099511627776 := by omega
    by_cases hat : bef z T < upt z T
    · refine .inr (.inr (.inl ⟨hT', putL_err sz z T V 1 0 8 hT (by unfold newV; rw [if_pos hat]; rfl) (by decide), ⟨_, by unfold getL; rw [if_pos hat]⟩, hf⟩))
    · have hg : getL z T = (0, 5) := by unfold getL; rw [if_neg hat]
      have hv : newV z T V 1 = (V, 0) := by unfold newV; rw [if_neg hat]
      have hl : (insL z T V).length = z.length + 1 := by rw [insL_length z T V hr]; have := bef_le_upt hr T; omega
      by_cases hb : 8 * sz < (bitsZ (insL z T V) : Int)
      · refine .inr (.inr (.inr (.inl ⟨hT', ⟨?_, ⟨_, hg⟩, hf⟩, ?_⟩)))
        · unfold putL; rw [if_neg hT, hv, if_neg (by simp), if_pos hb]
        · have := bitsZ_le (insL z T V)
          rw [hl] at this
          omega
      · refine .inr (.inr (.inr (.inr ⟨hT', insL z T V, ⟨?_, ⟨_, hg⟩, by omega⟩, hl⟩)))
        unfold putL; rw [if_neg hT, hv, if_neg (by simp), if_neg hb]

set_option maxRecDepth 100000 in
set_option maxHeartbeats 8000000 in
theorem walk (s : Int) (a : Option Addr) (len cap : Nat) (zz : List (Int × Int)) (w : World) (hs : (Lit.int .u16 s).wf = true) (hz : SampAt w a len cap zz) :
    Calls Try.prog 5 #[.int .u16 s, .slice a len cap] w fun e w' => e = .returned (.bool true) ∧ Below w.heap.size w w' := by
  have hsb := bounds_u16 hs
  have hlen := hz.2.2.1
  have HZ := Lib.hid hz
  have H64 := Lib.hid hz.2.2.2.1
  clear hs hz
  have hm : 0 ≤ s % 3000 ∧ s % 3000 < 3000 := by omega
  go_enter Try.func5, Try.ntmps5
  go_wp2_with fail
  obtain ⟨sz, hsz⟩ : ∃ sz, 128 + s % 3000 = sz := ⟨_, rfl⟩
  rw [hsz]
  have s1 : 128 ≤ sz := by omega
  have s2 : sz ≤ 4096 := by omega
  clear hsz hm hsb
  refine (cnew_at sz w s1 s2).mono ?_
  rintro e W0 ⟨rfl, p0, B0, n0⟩
  have n0' : w.heap.size < W0.heap.size := by omega
  clear n0
  generalize hb : w.heap.size = b at p0 n0' ⊢
  have HBW := Lib.hid hb
  rw [hb] at B0
  clear hb
  go_wp2_with fail
  go_loopw [7] (fun i wr => ∃ (j : Nat) (z : List (Int × Int)), j ≤ len ∧ j ≤ 100 ∧ i = .int .i64 (j : Int) ∧ PCk wr b sz z ∧ Rising z ∧ z.length ≤ j ∧ (bitsZ z : Int) ≤ 8 * sz ∧ Below b w wr ∧ b < wr.heap.size) (fun i _ => len - (intOf i).toNat)
  case atStart => exact ⟨0, [], Nat.zero_le _, Nat.zero_le _, rfl, p0, rising_nil, Nat.le_refl _, by show ((0 : Nat) : Int) ≤ _; omega, B0, n0'⟩
  case round =>
    obtain ⟨j, z, hj, hj2, rfl, hp, hr, hzl, hfit, B1, n1⟩ := hrel
    by_cases hjl : j < len ∧ j < 100
    · obtain ⟨hjl, hjh⟩ := hjl
      obtain ⟨q, o, rfl, hq, x0, x1⟩ := HZ.out.at_ j hjl
      have h64 := all64_at H64.out j
      have X0 := Lib.hid x0
      have X1 := Lib.hid x1
      have hqb : q < b := by rw [← HBW.out]; exact hq
      clear x0 x1 hq
      generalize tOf zz j = T at *
      generalize vOf zz j = V at *
      have HR := Lib.hid hr
      have HC := Lib.hid (round_cases sz s1 z hr hfit T V)
      have HFIT := Lib.hid hfit
      have hzs : z.length ≤ 100 := by omega
      clear hr hfit
      rcases HC.out with ⟨hT, h⟩ | ⟨hT, h⟩ | ⟨hT, h⟩ | ⟨hT, h, h7⟩ | ⟨hT, l, h, hll⟩
      · obtain ⟨hP, ⟨gx, hG⟩, hf2⟩ := h
        have HP := Lib.hid hP
        have HG := Lib.hid hG
        have HF2 := Lib.hid hf2
        have HR2 := HR
        clear hP hG hf2 HC
        rcases hT with hT | hT
        all_goals
          have x0 : wr.cell? ⟨q, o + j * 2, none⟩ = some (.int .i64 T) := by rw [B1.cell hqb]; exact X0.out
          have x1 : wr.cell? ⟨q, o + j * 2 + 1, none⟩ = some (.int .i64 V) := by rw [B1.cell hqb]; exact X1.out
          go_wp2_with fail
          refine (all_ok b sz z wr hp (by omega) (by omega)).mono ?_
          rintro e W2 ⟨a2, c2, rfl, L2, g⟩
          have B2 := bel_gbn B1 (Nat.le_of_lt n1) (gb_below g)
          have n2 := Nat.lt_of_lt_of_le n1 g.size
          have p2 : PCk W2 b sz z := CAt.keepB hp g
          clear g x0 x1 hp
          have x0 : W2.cell? ⟨q, o + j * 2, none⟩ = some (.int .i64 T) := by rw [B2.cell hqb]; exact X0.out
          have x1 : W2.cell? ⟨q, o + j * 2 + 1, none⟩ = some (.int .i64 V) := by rw [B2.cell hqb]; exact X1.out
          go_wp2_with fail
          refine (get_at b sz z T gx 0 W2 HG.out p2 (by omega) HR.out (by omega)).mono ?_
          rintro e W3 ⟨rfl, g⟩
          have B3 := bel_gbn B2 (Nat.le_of_lt n2) (gb_below g)
          have n3 := Nat.lt_of_lt_of_le n2 g.size
          have p3 : PCk W3 b sz z := CAt.keepB p2 g
          have L3 := L2.keepB g
          clear g x0 x1 p2 L2 B2
          have x0 : W3.cell? ⟨q, o + j * 2, none⟩ = some (.int .i64 T) := by rw [B3.cell hqb]; exact X0.out
          have x1 : W3.cell? ⟨q, o + j * 2 + 1, none⟩ = some (.int .i64 V) := by rw [B3.cell hqb]; exact X1.out
          go_wp2_with fail
          refine (put_at b sz z T V 1 1 z W3 HP.out p3 (by omega) s2 HR.out (by omega) h64.1 h64.2).mono ?_
          rintro e W4 ⟨rfl, p4, g⟩
          have B4 := bel_gb B3 (Nat.le_of_lt n3) (Nat.le_refl b) g
          have n4 := Nat.lt_of_lt_of_le n3 g.size
          have L4 := L3.keep g (by intro r e; cases e; exact CAt.no p3 (by decide))
          clear g x0 x1 p3 L3 B3 n3 n2 n1 B1
          have x0 : W4.cell? ⟨q, o + j * 2, none⟩ = some (.int .i64 T) := by rw [B4.cell hqb]; exact X0.out
          have x1 : W4.cell? ⟨q, o + j * 2 + 1, none⟩ = some (.int .i64 V) := by rw [B4.cell hqb]; exact X1.out
          go_wp2_with fail

          refine (all_ok b sz z W4 p4 (by omega) (by omega)).mono ?_
          rintro e W5 ⟨a5, c5, rfl, L5, g⟩
          have B5 := bel_gbn B4 (Nat.le_of_lt n4) (gb_below g)
          have n5 := Nat.lt_of_lt_of_le n4 g.size
          have p5 : PCk W5 b sz z := CAt.keepB p4 g
          have L6 := L4.keepB g
          clear g x0 x1 p4 L4 B4 n4
          go_wp2_with fail
          refine (same_any a5 a2 _ _ c5 c2 z z W5 L5.1 L6.1).mono ?_
          rintro e W6 ⟨rfl, dr⟩
          rw [decide_eq_true (rfl : z = z)]
          have g := dr.gb none
          have B6 := bel_gbn B5 (Nat.le_of_lt n5) g
          have n6 := Nat.lt_of_lt_of_le n5 g.size
          have p6 : PCk W6 b sz z := CAt.keepN p5 g
          clear dr g L5 L6 p5 B5 n5

          have x0 : W6.cell? ⟨q, o + j * 2, none⟩ = some (.int .i64 T) := by rw [B6.cell hqb]; exact X0.out
          have x1 : W6.cell? ⟨q, o + j * 2 + 1, none⟩ = some (.int .i64 V) := by rw [B6.cell hqb]; exact X1.out
          go_wp2_with fail
          refine (used_ok b sz z W6 p6 (by omega) (by omega)).mono ?_
          rintro e W7 ⟨rfl, g⟩
          have B7 := bel_gbn B6 (Nat.le_of_lt n6) (gb_below g)
          have n7 := Nat.lt_of_lt_of_le n6 g.size
          have p7 : PCk W7 b sz z := CAt.keepB p6 g
          have hu := fits_used sz z HF2.out
          clear g p6 B6 n6 x0 x1
          generalize usedL z = us at *
          go_wp2_with fail
          refine (size_ok b sz z W7 p7).mono ?_
          rintro e w' ⟨rfl, rfl⟩
          go_wp2
          go_roundw
          case rel => exact ⟨j + 1, z, by omega, by omega, by go_num, p7, HR2.out, by omega, HF2.out, B7, n7⟩
          case measure => simp [intOf]; omega
      · obtain ⟨hP, ⟨gx, hG⟩, hf2⟩ := h
        have HP := Lib.hid hP
        have HG := Lib.hid hG
        have HF2 := Lib.hid hf2
        have HR2 := HR
        clear hP hG hf2 HC
        rcases hT with hT | hT
        all_goals
          have x0 : wr.cell? ⟨q, o + j * 2, none⟩ = some (.int .i64 T) := by rw [B1.cell hqb]; exact X0.out
          have x1 : wr.cell? ⟨q, o + j * 2 + 1, none⟩ = some (.int .i64 V) := by rw [B1.cell hqb]; exact X1.out
          go_wp2_with fail
          refine (all_ok b sz z wr hp (by omega) (by omega)).mono ?_
          rintro e W2 ⟨a2, c2, rfl, L2, g⟩
          have B2 := bel_gbn B1 (Nat.le_of_lt n1) (gb_below g)
          have n2 := Nat.lt_of_lt_of_le n1 g.size
          have p2 : PCk W2 b sz z := CAt.keepB hp g
          clear g x0 x1 hp
          have x0 : W2.cell? ⟨q, o + j * 2, none⟩ = some (.int .i64 T) := by rw [B2.cell hqb]; exact X0.out
          have x1 : W2.cell? ⟨q, o + j * 2 + 1, none⟩ = some (.int .i64 V) := by rw [B2.cell hqb]; exact X1.out
          go_wp2_with fail
          refine (get_at b sz z T gx 5 W2 HG.out p2 (by omega) HR.out (by omega)).mono ?_
          rintro e W3 ⟨rfl, g⟩
          have B3 := bel_gbn B2 (Nat.le_of_lt n2) (gb_below g)
          have n3 := Nat.lt_of_lt_of_le n2 g.size
          have p3 : PCk W3 b sz z := CAt.keepB p2 g
          have L3 := L2.keepB g
          clear g x0 x1 p2 L2 B2
          have x0 : W3.cell? ⟨q, o + j * 2, none⟩ = some (.int .i64 T) := by rw [B3.cell hqb]; exact X0.out
          have x1 : W3.cell? ⟨q, o + j * 2 + 1, none⟩ = some (.int .i64 V) := by rw [B3.cell hqb]; exact X1.out
          go_wp2_with fail
          refine (put_at b sz z T V 1 1 z W3 HP.out p3 (by omega) s2 HR.out (by omega) h64.1 h64.2).mono ?_
          rintro e W4 ⟨rfl, p4, g⟩
          have B4 := bel_gb B3 (Nat.le_of_lt n3) (Nat.le_refl b) g
          have n4 := Nat.lt_of_lt_of_le n3 g.size
          have L4 := L3.keep g (by intro r e; cases e; exact CAt.no p3 (by decide))
          clear g x0 x1 p3 L3 B3 n3 n2 n1 B1
          have x0 : W4.cell? ⟨q, o + j * 2, none⟩ = some (.int .i64 T) := by rw [B4.cell hqb]; exact X0.out
          have x1 : W4.cell? ⟨q, o + j * 2 + 1, none⟩ = some (.int .i64 V) := by rw [B4.cell hqb]; exact X1.out
          go_wp2_with fail

          refine (all_ok b sz z W4 p4 (by omega) (by omega)).mono ?_
          rintro e W5 ⟨a5, c5, rfl, L5, g⟩
          have B5 := bel_gbn B4 (Nat.le_of_lt n4) (gb_below g)
          have n5 := Nat.lt_of_lt_of_le n4 g.size
          have p5 : PCk W5 b sz z := CAt.keepB p4 g
          have L6 := L4.keepB g
          clear g x0 x1 p4 L4 B4 n4
          go_wp2_with fail
          refine (same_any a5 a2 _ _ c5 c2 z z W5 L5.1 L6.1).mono ?_
          rintro e W6 ⟨rfl, dr⟩
          rw [decide_eq_true (rfl : z = z)]
          have g := dr.gb none
          have B6 := bel_gbn B5 (Nat.le_of_lt n5) g
          have n6 := Nat.lt_of_lt_of_le n5 g.size
          have p6 : PCk W6 b sz z := CAt.keepN p5 g
          clear dr g L5 L6 p5 B5 n5

          have x0 : W6.cell? ⟨q, o + j * 2, none⟩ = some (.int .i64 T) := by rw [B6.cell hqb]; exact X0.out
          have x1 : W6.cell? ⟨q, o + j * 2 + 1, none⟩ = some (.int .i64 V) := by rw [B6.cell hqb]; exact X1.out
          go_wp2_with fail
          refine (used_ok b sz z W6 p6 (by omega) (by omega)).mono ?_
          rintro e W7 ⟨rfl, g⟩
          have B7 := bel_gbn B6 (Nat.le_of_lt n6) (gb_below g)
          have n7 := Nat.lt_of_lt_of_le n6 g.size
          have p7 : PCk W7 b sz z := CAt.keepB p6 g
          have hu := fits_used sz z HF2.out
          clear g p6 B6 n6 x0 x1
          generalize usedL z = us at *
          go_wp2_with fail
          refine (size_ok b sz z W7 p7).mono ?_
          rintro e w' ⟨rfl, rfl⟩
          go_wp2
          go_roundw
          case rel => exact ⟨j + 1, z, by omega, by omega, by go_num, p7, HR2.out, by omega, HF2.out, B7, n7⟩
          case measure => simp [intOf]; omega
      · obtain ⟨hP, ⟨gx, hG⟩, hf2⟩ := h
        have HP := Lib.hid hP
        have HG := Lib.hid hG
        have HF2 := Lib.hid hf2
        have HR2 := HR
        obtain ⟨hT1, hT2⟩ := hT
        clear hP hG hf2 HC
        have x0 : wr.cell? ⟨q, o + j * 2, none⟩ = some (.int .i64 T) := by rw [B1.cell hqb]; exact X0.out
        have x1 : wr.cell? ⟨q, o + j * 2 + 1, none⟩ = some (.int .i64 V) := by rw [B1.cell hqb]; exact X1.out
        go_wp2_with fail
        refine (all_ok b sz z wr hp (by omega) (by omega)).mono ?_
        rintro e W2 ⟨a2, c2, rfl, L2, g⟩
        have B2 := bel_gbn B1 (Nat.le_of_lt n1) (gb_below g)
        have n2 := Nat.lt_of_lt_of_le n1 g.size
        have p2 : PCk W2 b sz z := CAt.keepB hp g
        clear g x0 x1 hp
        have x0 : W2.cell? ⟨q, o + j * 2, none⟩ = some (.int .i64 T) := by rw [B2.cell hqb]; exact X0.out
        have x1 : W2.cell? ⟨q, o + j * 2 + 1, none⟩ = some (.int .i64 V) := by rw [B2.cell hqb]; exact X1.out
        go_wp2_with fail
        refine (get_at b sz z T gx 0 W2 HG.out p2 (by omega) HR.out (by omega)).mono ?_
        rintro e W3 ⟨rfl, g⟩
        have B3 := bel_gbn B2 (Nat.le_of_lt n2) (gb_below g)
        have n3 := Nat.lt_of_lt_of_le n2 g.size
        have p3 : PCk W3 b sz z := CAt.keepB p2 g
        have L3 := L2.keepB g
        clear g x0 x1 p2 L2 B2
        have x0 : W3.cell? ⟨q, o + j * 2, none⟩ = some (.int .i64 T) := by rw [B3.cell hqb]; exact X0.out
        have x1 : W3.cell? ⟨q, o + j * 2 + 1, none⟩ = some (.int .i64 V) := by rw [B3.cell hqb]; exact X1.out
        go_wp2_with fail
        refine (put_at b sz z T V 1 8 z W3 HP.out p3 (by omega) s2 HR.out (by omega) h64.1 h64.2).mono ?_
        rintro e W4 ⟨rfl, p4, g⟩
        have B4 := bel_gb B3 (Nat.le_of_lt n3) (Nat.le_refl b) g
        have n4 := Nat.lt_of_lt_of_le n3 g.size
        have L4 := L3.keep g (by intro r e; cases e; exact CAt.no p3 (by decide))
        clear g x0 x1 p3 L3 B3 n3 n2 n1 B1
        have x0 : W4.cell? ⟨q, o + j * 2, none⟩ = some (.int .i64 T) := by rw [B4.cell hqb]; exact X0.out
        have x1 : W4.cell? ⟨q, o + j * 2 + 1, none⟩ = some (.int .i64 V) := by rw [B4.cell hqb]; exact X1.out
        go_wp2_with fail

        refine (all_ok b sz z W4 p4 (by omega) (by omega)).mono ?_
        rintro e W5 ⟨a5, c5, rfl, L5, g⟩
        have B5 := bel_gbn B4 (Nat.le_of_lt n4) (gb_below g)
        have n5 := Nat.lt_of_lt_of_le n4 g.size
        have p5 : PCk W5 b sz z := CAt.keepB p4 g
        have L6 := L4.keepB g
        clear g x0 x1 p4 L4 B4 n4
        go_wp2_with fail
        refine (same_any a5 a2 _ _ c5 c2 z z W5 L5.1 L6.1).mono ?_
        rintro e W6 ⟨rfl, dr⟩
        rw [decide_eq_true (rfl : z = z)]
        have g := dr.gb none
        have B6 := bel_gbn B5 (Nat.le_of_lt n5) g
        have n6 := Nat.lt_of_lt_of_le n5 g.size
        have p6 : PCk W6 b sz z := CAt.keepN p5 g
        clear dr g L5 L6 p5 B5 n5

        have x0 : W6.cell? ⟨q, o + j * 2, none⟩ = some (.int .i64 T) := by rw [B6.cell hqb]; exact X0.out
        have x1 : W6.cell? ⟨q, o + j * 2 + 1, none⟩ = some (.int .i64 V) := by rw [B6.cell hqb]; exact X1.out
        go_wp2_with fail
        refine (used_ok b sz z W6 p6 (by omega) (by omega)).mono ?_
        rintro e W7 ⟨rfl, g⟩
        have B7 := bel_gbn B6 (Nat.le_of_lt n6) (gb_below g)
        have n7 := Nat.lt_of_lt_of_le n6 g.size
        have p7 : PCk W7 b sz z := CAt.keepB p6 g
        have hu := fits_used sz z HF2.out
        clear g p6 B6 n6 x0 x1
        generalize usedL z = us at *
        go_wp2_with fail
        refine (size_ok b sz z W7 p7).mono ?_
        rintro e w' ⟨rfl, rfl⟩
        go_wp2
        go_roundw
        case rel => exact ⟨j + 1, z, by omega, by omega, by go_num, p7, HR2.out, by omega, HF2.out, B7, n7⟩
        case measure => simp [intOf]; omega
      · obtain ⟨hP, ⟨gx, hG⟩, hf2⟩ := h
        have HP := Lib.hid hP
        have HG := Lib.hid hG
        have HF2 := Lib.hid hf2
        have HR2 := HR
        obtain ⟨hT1, hT2⟩ := hT
        clear hP hG hf2 HC
        have x0 : wr.cell? ⟨q, o + j * 2, none⟩ = some (.int .i64 T) := by rw [B1.cell hqb]; exact X0.out
        have x1 : wr.cell? ⟨q, o + j * 2 + 1, none⟩ = some (.int .i64 V) := by rw [B1.cell hqb]; exact X1.out
        go_wp2_with fail
        refine (all_ok b sz z wr hp (by omega) (by omega)).mono ?_
        rintro e W2 ⟨a2, c2, rfl, L2, g⟩
        have B2 := bel_gbn B1 (Nat.le_of_lt n1) (gb_below g)
        have n2 := Nat.lt_of_lt_of_le n1 g.size
        have p2 : PCk W2 b sz z := CAt.keepB hp g
        clear g x0 x1 hp
        have x0 : W2.cell? ⟨q, o + j * 2, none⟩ = some (.int .i64 T) := by rw [B2.cell hqb]; exact X0.out
        have x1 : W2.cell? ⟨q, o + j * 2 + 1, none⟩ = some (.int .i64 V) := by rw [B2.cell hqb]; exact X1.out
        go_wp2_with fail
        refine (get_at b sz z T gx 5 W2 HG.out p2 (by omega) HR.out (by omega)).mono ?_
        rintro e W3 ⟨rfl, g⟩
        have B3 := bel_gbn B2 (Nat.le_of_lt n2) (gb_below g)
        have n3 := Nat.lt_of_lt_of_le n2 g.size
        have p3 : PCk W3 b sz z := CAt.keepB p2 g
        have L3 := L2.keepB g
        clear g x0 x1 p2 L2 B2
        have x0 : W3.cell? ⟨q, o + j * 2, none⟩ = some (.int .i64 T) := by rw [B3.cell hqb]; exact X0.out
        have x1 : W3.cell? ⟨q, o + j * 2 + 1, none⟩ = some (.int .i64 V) := by rw [B3.cell hqb]; exact X1.out
        go_wp2_with fail
        refine (put_at b sz z T V 1 2 z W3 HP.out p3 (by omega) s2 HR.out (by omega) h64.1 h64.2).mono ?_
        rintro e W4 ⟨rfl, p4, g⟩
        have B4 := bel_gb B3 (Nat.le_of_lt n3) (Nat.le_refl b) g
        have n4 := Nat.lt_of_lt_of_le n3 g.size
        have L4 := L3.keep g (by intro r e; cases e; exact CAt.no p3 (by decide))
        clear g x0 x1 p3 L3 B3 n3 n2 n1 B1
        have x0 : W4.cell? ⟨q, o + j * 2, none⟩ = some (.int .i64 T) := by rw [B4.cell hqb]; exact X0.out
        have x1 : W4.cell? ⟨q, o + j * 2 + 1, none⟩ = some (.int .i64 V) := by rw [B4.cell hqb]; exact X1.out
        go_wp2_with fail

        refine (all_ok b sz z W4 p4 (by omega) (by omega)).mono ?_
        rintro e W5 ⟨a5, c5, rfl, L5, g⟩
        have B5 := bel_gbn B4 (Nat.le_of_lt n4) (gb_below g)
        have n5 := Nat.lt_of_lt_of_le n4 g.size
        have p5 : PCk W5 b sz z := CAt.keepB p4 g
        have L6 := L4.keepB g
        clear g x0 x1 p4 L4 B4 n4
        go_wp2_with fail
        refine (same_any a5 a2 _ _ c5 c2 z z W5 L5.1 L6.1).mono ?_
        rintro e W6 ⟨rfl, dr⟩
        rw [decide_eq_true (rfl : z = z)]
        have g := dr.gb none
        have B6 := bel_gbn B5 (Nat.le_of_lt n5) g
        have n6 := Nat.lt_of_lt_of_le n5 g.size
        have p6 : PCk W6 b sz z := CAt.keepN p5 g
        clear dr g L5 L6 p5 B5 n5

        have x0 : W6.cell? ⟨q, o + j * 2, none⟩ = some (.int .i64 T) := by rw [B6.cell hqb]; exact X0.out
        have x1 : W6.cell? ⟨q, o + j * 2 + 1, none⟩ = some (.int .i64 V) := by rw [B6.cell hqb]; exact X1.out
        go_wp2_with fail
        refine (used_ok b sz z W6 p6 (by omega) (by omega)).mono ?_
        rintro e W7 ⟨rfl, g⟩
        have B7 := bel_gbn B6 (Nat.le_of_lt n6) (gb_below g)
        have n7 := Nat.lt_of_lt_of_le n6 g.size
        have p7 : PCk W7 b sz z := CAt.keepB p6 g
        have hu := fits_used sz z HF2.out
        clear g p6 B6 n6 x0 x1
        generalize usedL z = us at *
        go_wp2_with fail
        refine (size_ok b sz z W7 p7).mono ?_
        rintro e w' ⟨rfl, rfl⟩
        go_wp2
        go_roundw
        case rel => exact ⟨j + 1, z, by omega, by omega, by go_num, p7, HR2.out, by omega, HF2.out, B7, n7⟩
        case measure => simp [intOf]; omega
      · obtain ⟨hP, ⟨gx, hG⟩, hf2⟩ := h
        have HP := Lib.hid hP
        have HG := Lib.hid hG
        have HF2 := Lib.hid hf2
        have HR2 := Lib.hid (by have := putL_rising HR.out sz T V 1; rw [hP] at this; exact this)
        have HLL := Lib.hid hll
        have hls : l.length ≤ j + 1 := by omega
        obtain ⟨hT1, hT2⟩ := hT
        clear hP hG hf2 HC hll
        have x0 : wr.cell? ⟨q, o + j * 2, none⟩ = some (.int .i64 T) := by rw [B1.cell hqb]; exact X0.out
        have x1 : wr.cell? ⟨q, o + j * 2 + 1, none⟩ = some (.int .i64 V) := by rw [B1.cell hqb]; exact X1.out
        go_wp2_with fail
        refine (all_ok b sz z wr hp (by omega) (by omega)).mono ?_
        rintro e W2 ⟨a2, c2, rfl, L2, g⟩
        have B2 := bel_gbn B1 (Nat.le_of_lt n1) (gb_below g)
        have n2 := Nat.lt_of_lt_of_le n1 g.size
        have p2 : PCk W2 b sz z := CAt.keepB hp g
        clear g x0 x1 hp
        have x0 : W2.cell? ⟨q, o + j * 2, none⟩ = some (.int .i64 T) := by rw [B2.cell hqb]; exact X0.out
        have x1 : W2.cell? ⟨q, o + j * 2 + 1, none⟩ = some (.int .i64 V) := by rw [B2.cell hqb]; exact X1.out
        go_wp2_with fail
        refine (get_at b sz z T gx 5 W2 HG.out p2 (by omega) HR.out (by omega)).mono ?_
        rintro e W3 ⟨rfl, g⟩
        have B3 := bel_gbn B2 (Nat.le_of_lt n2) (gb_below g)
        have n3 := Nat.lt_of_lt_of_le n2 g.size
        have p3 : PCk W3 b sz z := CAt.keepB p2 g
        have L3 := L2.keepB g
        clear g x0 x1 p2 L2 B2
        have x0 : W3.cell? ⟨q, o + j * 2, none⟩ = some (.int .i64 T) := by rw [B3.cell hqb]; exact X0.out
        have x1 : W3.cell? ⟨q, o + j * 2 + 1, none⟩ = some (.int .i64 V) := by rw [B3.cell hqb]; exact X1.out
        go_wp2_with fail
        refine (put_at b sz z T V 1 0 l W3 HP.out p3 (by omega) s2 HR.out (by omega) h64.1 h64.2).mono ?_
        rintro e W4 ⟨rfl, p4, g⟩
        have B4 := bel_gb B3 (Nat.le_of_lt n3) (Nat.le_refl b) g
        have n4 := Nat.lt_of_lt_of_le n3 g.size
        have L4 := L3.keep g (by intro r e; cases e; exact CAt.no p3 (by decide))
        clear g x0 x1 p3 L3 B3 n3 n2 n1 B1
        have x0 : W4.cell? ⟨q, o + j * 2, none⟩ = some (.int .i64 T) := by rw [B4.cell hqb]; exact X0.out
        have x1 : W4.cell? ⟨q, o + j * 2 + 1, none⟩ = some (.int .i64 V) := by rw [B4.cell hqb]; exact X1.out
        go_wp2_with fail

        refine (len_ok b sz l W4 p4 (by omega)).mono ?_
        rintro e w' ⟨rfl, rfl⟩
        rw [HLL.out]
        have B6 := B4
        have n6 := n4
        have p6 := p4
        clear B4 n4 p4 x0 x1 L4
        generalize W4 = W6 at *
        have hne1 : (((z.length + 1 : Nat) : Int) != ((z.length : Nat) : Int) + 1) = false := by rw [bne_eq_false_iff_eq]; omega

        have x0 : W6.cell? ⟨q, o + j * 2, none⟩ = some (.int .i64 T) := by rw [B6.cell hqb]; exact X0.out
        have x1 : W6.cell? ⟨q, o + j * 2 + 1, none⟩ = some (.int .i64 V) := by rw [B6.cell hqb]; exact X1.out
        go_wp2_with fail
        refine (used_ok b sz l W6 p6 (by omega) (by omega)).mono ?_
        rintro e W7 ⟨rfl, g⟩
        have B7 := bel_gbn B6 (Nat.le_of_lt n6) (gb_below g)
        have n7 := Nat.lt_of_lt_of_le n6 g.size
        have p7 : PCk W7 b sz l := CAt.keepB p6 g
        have hu := fits_used sz l HF2.out
        clear g p6 B6 n6 x0 x1
        generalize usedL l = us at *
        go_wp2_with fail
        refine (size_ok b sz l W7 p7).mono ?_
        rintro e w' ⟨rfl, rfl⟩
        go_wp2
        go_roundw
        case rel => exact ⟨j + 1, l, by omega, by omega, by go_num, p7, HR2.out, by omega, HF2.out, B7, n7⟩
        case measure => simp [intOf]; omega
    · have hexit : ¬ j < len ∨ (j < len ∧ ¬ j < 100) := by omega
      clear hjl
      rcases hexit with h1 | ⟨h1, h2⟩
      all_goals
        go_wp2_with fail
        refine (cknown_any _).mono ?_
        rintro e W9 ⟨rfl, b9⟩
        have B9 := bel_gbn B1 (Nat.le_of_lt n1) (gb_below b9)
        clear b9
        go_wp2
        go_ret
        exact ⟨rfl, by rw [HBW.out]; exact B9⟩

set_option maxRecDepth 100000 in
theorem lifted (os : Os) (started : os.Started) (H : Type) (enc : TypeId × Value → H) :
    ReturnsInHanded {} Try.checked os 5 .any (Rows.chunkHoldsSpec.pre6 enc Try.prog Try.f5 Rows.chunkHoldsRow.domain false) (Rows.chunkHoldsSpec.post enc Try.prog Try.f5 false true false false) := by
  refine returnsInHanded_of_change (C := Try.checked) own started (by kernel_rfl) Try.func5
    (ChangeSpec.witness6 (enc := enc) (C := Try.checked) false ⟨#[], #[.int .u16 0, .slice none 0 0], []⟩ 8 (by kernel_rfl) (by kernel_rfl) (by kernel_rfl) (by kernel_rfl)) ?_
  intro W base args ds gs before hval0 hW hcnd _
  have hval : ∀ (j : Nat) t v, Try.f5.params[j]? = some t → args[j]? = some v → Value.okWide Try.prog W .any base t v := hval0
  have hW' := hW
  obtain ⟨p, q, hA0, hV, rfl, hfz, hnd⟩ := hW
  have hA : DataW.TrodAll enc Try.prog W 0 (fun _ => true) true Try.f5.params.toList args.toList ds p := hA0
  rw [Try.params5] at hA hval
  obtain ⟨v0, vs0, d0, ds0, p0, q0, hargs, rfl, rfl, h0, r0⟩ := trodAll_cons hA
  obtain ⟨v1, vs1, d1, ds1, p1, q1, rfl, rfl, rfl, h1, r1⟩ := trodAll_cons r0
  obtain ⟨rfl, rfl, rfl⟩ := trodAll_nil r1
  obtain rfl : args = #[v0, v1] := by cases args; simp_all
  obtain ⟨rfl, rfl⟩ := trodVars_none hV
  obtain ⟨a0, rfl, rfl, rfl, w0⟩ := open_int Try.underlying48 (hval 0 48 v0 rfl rfl) h0
  obtain ⟨a1, len1, cap1, rfl⟩ := okWide_slice Try.underlying43 (hval 1 43 v1 rfl rfl)
  have k1 := h1
  have lt1 : ∀ x ∈ p1, x.block < W.heap.size := by obtain ⟨m, hm⟩ := k1; exact DataW.trod_lt m _ _ _ hm
  obtain ⟨z1, w1⟩ := open_samps h1
  clear hA0 hval0
  refine (walk a0 a1 len1 cap1 z1 W w0 w1).mono fun e W' ⟨he, bel⟩ => ?_
  subst he
  exact ⟨_, rfl, _, _, _, [], _, [], hW', trodAll_mk1 (shut_bool Try.underlying4 _), (trodAll_cons_mk (shut_int Try.underlying48 w0) (trodAll_cons_mk (Below.trod laidOut (by kernel_rfl) (of_decide_eq_true (by kernel_rfl)) k1 bel lt1) trodAll_mk0)), rfl, bel.frame _, fun h => by cases h⟩

theorem over : Rows.chunkHoldsRow.holds Try.pinned (OpenSpec.ofChange Rows.chunkHoldsSpec) :=
  OpenClaim.holds_of_wide 5 Try.f5 rfl rfl rfl rfl rfl rfl rfl ⟨rfl, rfl, rfl, rfl, rfl⟩ rfl rfl rfl rfl rfl (by kernel_rfl) Try.func5 (by kernel_rfl)
    (of_decide_eq_true (by kernel_rfl)) (by unfold Func.isWrapper; first | (rw [if_pos (by decide +kernel)]; kernel_rfl) | (rw [if_neg (by decide +kernel)]; exact ⟨rfl, rfl⟩))
    (fun os started H enc _ => lifted os started H enc)

theorem proved : Rows.ChunkHoldsSaid := over
end chunkHolds
theorem chunkHolds_holds : Rows.ChunkHoldsSaid := chunkHolds.proved
#print axioms chunkHolds_holds
end Go.Proofs.Ytjhnajenkoepdaa
