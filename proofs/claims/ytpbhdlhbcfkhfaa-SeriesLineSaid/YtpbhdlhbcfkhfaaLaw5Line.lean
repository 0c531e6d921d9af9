/-
  The statement 'SeriesLine' of layer 5: for every retention, every calls and every number, nothing below the line is there; a sample below it is too old, one on it is not; the line never falls, whatever the retention becomes.
  No condition.
-/
import Derived.Test.YtpbhdlhbcfkhfaaSKnown
import Derived.Test.YtpbhdlhbcfkhfaaSOps
import Derived.ShutString
import Derived.ChangeOld
import Derived.Lib.SmallJoins
namespace Go.Proofs.Ytpbhdlhbcfkhfaa
namespace seriesLine
open Go.ChangeShapes Go.WideShapes Go.ChangeAt Go.RowKit
set_option linter.unusedVariables false
set_option linter.unusedSimpArgs false

theorem own : ownKnob Try.prog.godebug = none := by kernel_rfl
theorem laidOut : laidOutB Try.prog = true := by kernel_rfl

theorem line_trim (s : Ser) : s.line ≤ (trimS s).line := by show s.line ≤ lineS s; unfold lineS; split <;> omega
theorem line_add (s : Ser) (T V p : Int) : s.line ≤ (addS5 s T V p).line := by
  unfold addS5; split
  · exact line_trim ⟨s.ret, s.pol, max s.mx T, s.line, _⟩
  · exact Int.le_refl _
theorem line_alt (s : Ser) (r p : Int) : s.line ≤ (altS s r p).line := by
  unfold altS; split
  · exact line_trim ⟨r, p, s.mx, s.line, s.z⟩
  · exact Int.le_refl _
/-- By the policy Last: too old just below the line. -/
theorem old_iff (s : Ser) (T V : Int) : addE s T V 3 = 7 ↔ 0 ≤ T ∧ T < 1099511627776 ∧ T < s.line := by
  have hq : polS s 3 = 3 := by unfold polS; rw [if_neg (by omega)]
  unfold addE
  by_cases hb : badS s T 3
  · rw [if_pos hb]; unfold badS at hb; rw [hq] at hb; omega
  · rw [if_neg hb, hq, newV_last]
    unfold badS at hb
    rw [hq] at hb
    split <;> simp <;> omega
theorem on_line {s : Ser} (h : Std s) (V : Int) : addE s s.line V 3 = 0 := by
  have hq : polS s 3 = 3 := by unfold polS; rw [if_neg (by omega)]
  have := h.l0
  have := h.l1
  have := h.m1
  have hb : ¬ badS s s.line 3 := by unfold badS; rw [hq]; omega
  unfold addE
  rw [if_neg hb, if_neg (by omega), hq, newV_last]
theorem none_below {s : Ser} (h : Std s) : s.z.filter (inB 0 (s.line - 1)) = [] := by
  apply List.filter_eq_nil_iff.2
  intro u hu
  have := h.z0 u hu
  unfold inB; simp; omega

set_option maxRecDepth 100000 in
set_option maxHeartbeats 16000000 in
theorem walk (ret : Int) (a : Option Addr) (len cap : Nat) (zz : List Cl) (t : Int) (w : World) (hret : (Lit.int .u8 ret).wf = true) (hz : OpsC w a len zz) (ht : (Lit.int .u8 t).wf = true) :
    Calls Try.prog 5 #[.int .u8 ret, .slice a len cap, .int .u8 t] w fun e w' => e = .returned (.bool true) ∧ Below w.heap.size w w' := by
  have hrb := bounds_u8 hret
  have htb := bounds_u8 ht
  have hlen := hz.2.1
  have HZ := Lib.hid hz
  have hkb : keepB ret 3 := ⟨⟨by omega, by omega⟩, by omega, by omega⟩
  clear hz hret ht
  go_enter Try.func5, Try.ntmps5
  go_wp2_with fail
  refine (snew_at 200 ret 3 w (by omega) (by omega) hkb).mono ?_
  rintro e W0 ⟨b, rfl, S0', hb, B0⟩
  have S0 := Lib.hid S0'
  have ST0 := Lib.hid (Std.new hkb)
  clear S0' hkb
  go_wp2_with fail
  go_loopw [9] (fun i wr => ∃ (j : Nat) (s : Ser), j ≤ len ∧ j ≤ 60 ∧ i = .int .i64 (j : Int) ∧ SerAt wr b 200 s ∧ Std s ∧ s.z.length ≤ j ∧ Below w.heap.size w wr) (fun i _ => len - (intOf i).toNat)
  case atStart => exact ⟨0, newSer ret 3, Nat.zero_le _, Nat.zero_le _, rfl, S0.out, ST0.out, Nat.le_refl _, B0⟩
  case round =>
    obtain ⟨j, s, hj, hj2, rfl, hS, hSt, hsl, B1⟩ := hrel
    have HS := Lib.hid hS
    have HST := Lib.hid hSt
    have hl0 := hSt.l0
    have hl1 := hSt.l1
    have hm1 := hSt.m1
    clear hS hSt
    by_cases hjl : j < len
    · by_cases hjh : j < 60
      · have hjh' : (j : Int) < 60 := by omega
        obtain ⟨q, o, hqe, hq, x0, x1, x2, x3, h64⟩ := HZ.out.at_ j hjl
        subst hqe
        rw [← B1.cell hq] at x0 x1 x2 x3
        generalize opOf zz j = op at *
        obtain ⟨K, TT, VV, PP⟩ := op
        replace x0 : wr.cell? ⟨q, o + j * 4, none⟩ = some (.int .i64 K) := x0
        replace x1 : wr.cell? ⟨q, o + j * 4 + 1, none⟩ = some (.int .i64 TT) := x1
        replace x2 : wr.cell? ⟨q, o + j * 4 + 2, none⟩ = some (.int .i64 VV) := x2
        replace x3 : wr.cell? ⟨q, o + j * 4 + 3, none⟩ = some (.int .i64 PP) := x3
        have h64T : in64 TT := h64.2.1
        have h64V : in64 VV := h64.2.2.1
        have h64P : in64 PP := h64.2.2.2
        have hj0 : (0 : Int) ≤ (j : Int) := by omega
        have hj1 : (j : Int) < (len : Int) := by omega
        clear h64
        have HO := Lib.hid (heap_new wr (.cells #[.int .i64 K, .int .i64 TT, .int .i64 VV, .int .i64 PP] 31))
        have HS1 := Lib.hid (HS.out.keepN (World.grownBy_alloc wr (.cells #[.int .i64 K, .int .i64 TT, .int .i64 VV, .int .i64 PP] 31) none))
        have B2 := B1.alloc B1.size (.cells #[.int .i64 K, .int .i64 TT, .int .i64 VV, .int .i64 PP] 31)
        have n2 : wr.heap.size < (wr.alloc (.cells #[.int .i64 K, .int .i64 TT, .int .i64 VV, .int .i64 PP] 31)).heap.size := by simp
        have hbk : b < wr.heap.size := HS.out.lt
        go_wp2_with fail
        refine (sline_ok b 200 s wr HS.out (by omega)).mono ?_
        rintro e w' ⟨rfl, rfl⟩
        rcases (show K = 1 ∨ K = 2 ∨ (K ≠ 1 ∧ K ≠ 2) by omega) with hK | hK | ⟨hK1, hK2⟩
        · subst hK
          go_wp2_with fail
          generalize wr.alloc (.cells #[.int .i64 1, .int .i64 TT, .int .i64 VV, .int .i64 PP] 31) = W2 at *
          generalize wr.heap.size = kx at *
          have y0 : W2.cell? ⟨kx, 0, none⟩ = some (.int .i64 1) := by rw [cell_of HO.out]; rfl
          have y1 : W2.cell? ⟨kx, 1, none⟩ = some (.int .i64 TT) := by rw [cell_of HO.out]; rfl
          have y2 : W2.cell? ⟨kx, 2, none⟩ = some (.int .i64 VV) := by rw [cell_of HO.out]; rfl
          have y3 : W2.cell? ⟨kx, 3, none⟩ = some (.int .i64 PP) := by rw [cell_of HO.out]; rfl
          clear x0 x1 x2 x3
          refine (del_any b 200 s TT VV W2 HS1.out (by omega) (by omega) HST.out.rise (by omega)).mono ?_
          rintro e W4 ⟨rfl, S4, g4⟩
          have HL4 := Lib.hid (show s.line ≤ (delS s TT VV).line from Int.le_refl _)
          have HST4 := Lib.hid (HST.out.del TT VV)
          have hl4 : (delS s TT VV).z.length ≤ j + 1 := by have := del_len s TT VV; omega
          generalize dropN s.z TT VV = dn at *
          generalize delS s TT VV = s4 at *
          have HS4 := Lib.hid S4
          have B4 := bel_gb B2 B2.size hb g4
          have HO4 := Lib.hid ((g4.block kx n2 (by simp; omega)).trans HO.out)
          have n4 := Nat.lt_of_lt_of_le n2 g4.size
          clear S4 g4 y0 y1 y2 y3 HO HS1
          have y0 : W4.cell? ⟨kx, 0, none⟩ = some (.int .i64 1) := by rw [cell_of HO4.out]; rfl
          have y1 : W4.cell? ⟨kx, 1, none⟩ = some (.int .i64 TT) := by rw [cell_of HO4.out]; rfl
          have hll := HL4.out
          have hln : ¬ s4.line < s.line := by omega
          have HNB := Lib.hid (none_below HST4.out)
          go_wp2_with fail
          refine (sline_ok b 200 s4 W4 HS4.out (by omega)).mono ?_
          rintro e w' ⟨rfl, rfl⟩
          have hb4 := HST4.out.l0
          have hb5 := HST4.out.l1
          have hb6 := HST4.out.m1
          go_wp2_with fail
          refine (sline_ok b 200 s4 W4 HS4.out (by omega)).mono ?_
          rintro e w' ⟨rfl, rfl⟩
          go_wp2_with fail
          refine (range_ser b 200 s4 0 (s4.line - 1) W4 HS4.out (by omega) HST4.out.rise (by omega)).mono ?_
          rintro e W5 ⟨a5, c5, rfl, _, b5⟩
          have B5 := B4.trans (b5.mono B4.size)
          have HS5 := Lib.hid (HS4.out.keepB b5)
          rw [HNB.out]
          clear b5 y0 y1
          go_wp2
          go_roundw
          case rel => exact ⟨j + 1, s4, by omega, by omega, by go_num, HS5.out, HST4.out, hl4, B5⟩
          case measure => simp [intOf]; omega
        · subst hK
          have hK1 : ((2 : Int) == 1) = false := rfl
          go_wp2_with fail
          generalize wr.alloc (.cells #[.int .i64 2, .int .i64 TT, .int .i64 VV, .int .i64 PP] 31) = W2 at *
          generalize wr.heap.size = kx at *
          have y0 : W2.cell? ⟨kx, 0, none⟩ = some (.int .i64 2) := by rw [cell_of HO.out]; rfl
          have y1 : W2.cell? ⟨kx, 1, none⟩ = some (.int .i64 TT) := by rw [cell_of HO.out]; rfl
          have y2 : W2.cell? ⟨kx, 2, none⟩ = some (.int .i64 VV) := by rw [cell_of HO.out]; rfl
          have y3 : W2.cell? ⟨kx, 3, none⟩ = some (.int .i64 PP) := by rw [cell_of HO.out]; rfl
          clear x0 x1 x2 x3
          refine (alter_any b 200 s TT PP W2 HS1.out HST.out (by omega) (by omega) (by omega)).mono ?_
          rintro e W4 ⟨rfl, S4, g4⟩
          have HL4 := Lib.hid (line_alt s TT PP)
          have HST4 := Lib.hid (HST.out.alt TT PP)
          have hl4 : (altS s TT PP).z.length ≤ j + 1 := by have := alt_len s TT PP; omega
          generalize altE TT PP = er at *
          generalize altS s TT PP = s4 at *
          have HS4 := Lib.hid S4
          have B4 := bel_gb B2 B2.size hb g4
          have HO4 := Lib.hid ((g4.block kx n2 (by simp; omega)).trans HO.out)
          have n4 := Nat.lt_of_lt_of_le n2 g4.size
          clear S4 g4 y0 y1 y2 y3 HO HS1
          have y0 : W4.cell? ⟨kx, 0, none⟩ = some (.int .i64 2) := by rw [cell_of HO4.out]; rfl
          have y1 : W4.cell? ⟨kx, 1, none⟩ = some (.int .i64 TT) := by rw [cell_of HO4.out]; rfl
          have hll := HL4.out
          have hln : ¬ s4.line < s.line := by omega
          have HNB := Lib.hid (none_below HST4.out)
          go_wp2_with fail
          refine (sline_ok b 200 s4 W4 HS4.out (by omega)).mono ?_
          rintro e w' ⟨rfl, rfl⟩
          have hb4 := HST4.out.l0
          have hb5 := HST4.out.l1
          have hb6 := HST4.out.m1
          go_wp2_with fail
          refine (sline_ok b 200 s4 W4 HS4.out (by omega)).mono ?_
          rintro e w' ⟨rfl, rfl⟩
          go_wp2_with fail
          refine (range_ser b 200 s4 0 (s4.line - 1) W4 HS4.out (by omega) HST4.out.rise (by omega)).mono ?_
          rintro e W5 ⟨a5, c5, rfl, _, b5⟩
          have B5 := B4.trans (b5.mono B4.size)
          have HS5 := Lib.hid (HS4.out.keepB b5)
          rw [HNB.out]
          clear b5 y0 y1
          go_wp2
          go_roundw
          case rel => exact ⟨j + 1, s4, by omega, by omega, by go_num, HS5.out, HST4.out, hl4, B5⟩
          case measure => simp [intOf]; omega
        · have hKa : (K == 1) = false := by rw [beq_eq_false_iff_ne]; exact hK1
          have hKb : (K == 2) = false := by rw [beq_eq_false_iff_ne]; exact hK2
          have hKc : (K != 1) = true := by simpa using hK1
          have hKd : (K != 2) = true := by simpa using hK2
          go_wp2_with fail
          generalize wr.alloc (.cells #[.int .i64 K, .int .i64 TT, .int .i64 VV, .int .i64 PP] 31) = W2 at *
          generalize wr.heap.size = kx at *
          have y0 : W2.cell? ⟨kx, 0, none⟩ = some (.int .i64 K) := by rw [cell_of HO.out]; rfl
          have y1 : W2.cell? ⟨kx, 1, none⟩ = some (.int .i64 TT) := by rw [cell_of HO.out]; rfl
          have y2 : W2.cell? ⟨kx, 2, none⟩ = some (.int .i64 VV) := by rw [cell_of HO.out]; rfl
          have y3 : W2.cell? ⟨kx, 3, none⟩ = some (.int .i64 PP) := by rw [cell_of HO.out]; rfl
          clear x0 x1 x2 x3
          refine (add_ser b 200 s TT VV 3 W2 HS1.out HST.out (by omega) (by omega) (by omega) h64V).mono ?_
          rintro e W4 ⟨rfl, S4, g4⟩
          have HL4 := Lib.hid (line_add s TT VV 3)
          have HST4 := Lib.hid (HST.out.add TT VV 3 h64V)
          have hl4 : (addS5 s TT VV 3).z.length ≤ j + 1 := by have := add_len HST.out.rise TT VV 3; omega
          have HOI := Lib.hid (old_iff s TT VV)
          generalize addE s TT VV 3 = er at *
          generalize addS5 s TT VV 3 = s4 at *
          by_cases h7 : er = 7
          · have h8 := HOI.out.1 h7
            subst h7
            have ha : (0 : Int) ≤ TT := h8.1
            have hc : TT < s.line := h8.2.2
            have ha' : TT ≥ 0 := h8.1
            clear h8
            have HS4 := Lib.hid S4
            have B4 := bel_gb B2 B2.size hb g4
            have HO4 := Lib.hid ((g4.block kx n2 (by simp; omega)).trans HO.out)
            have n4 := Nat.lt_of_lt_of_le n2 g4.size
            clear S4 g4 y0 y1 y2 y3 HO HS1
            have y0 : W4.cell? ⟨kx, 0, none⟩ = some (.int .i64 K) := by rw [cell_of HO4.out]; rfl
            have y1 : W4.cell? ⟨kx, 1, none⟩ = some (.int .i64 TT) := by rw [cell_of HO4.out]; rfl
            have hll := HL4.out
            have hln : ¬ s4.line < s.line := by omega
            have HNB := Lib.hid (none_below HST4.out)
            go_wp2_with fail
            refine (sline_ok b 200 s4 W4 HS4.out (by omega)).mono ?_
            rintro e w' ⟨rfl, rfl⟩
            have hb4 := HST4.out.l0
            have hb5 := HST4.out.l1
            have hb6 := HST4.out.m1
            go_wp2_with fail
            refine (sline_ok b 200 s4 W4 HS4.out (by omega)).mono ?_
            rintro e w' ⟨rfl, rfl⟩
            go_wp2_with fail
            refine (range_ser b 200 s4 0 (s4.line - 1) W4 HS4.out (by omega) HST4.out.rise (by omega)).mono ?_
            rintro e W5 ⟨a5, c5, rfl, _, b5⟩
            have B5 := B4.trans (b5.mono B4.size)
            have HS5 := Lib.hid (HS4.out.keepB b5)
            rw [HNB.out]
            clear b5 y0 y1
            go_wp2
            go_roundw
            case rel => exact ⟨j + 1, s4, by omega, by omega, by go_num, HS5.out, HST4.out, hl4, B5⟩
            case measure => simp [intOf]; omega
          · have h7b : (er == 7) = false := by rw [beq_eq_false_iff_ne]; exact h7
            have h8 : ¬ (0 ≤ TT ∧ TT < s.line) := fun h => h7 (HOI.out.2 ⟨h.1, by omega, h.2⟩)
            clear h7
            by_cases ha : TT ≥ 0
            · have hc : ¬ TT < s.line := fun h => h8 ⟨ha, h⟩
              clear h8
              have HS4 := Lib.hid S4
              have B4 := bel_gb B2 B2.size hb g4
              have HO4 := Lib.hid ((g4.block kx n2 (by simp; omega)).trans HO.out)
              have n4 := Nat.lt_of_lt_of_le n2 g4.size
              clear S4 g4 y0 y1 y2 y3 HO HS1
              have y0 : W4.cell? ⟨kx, 0, none⟩ = some (.int .i64 K) := by rw [cell_of HO4.out]; rfl
              have y1 : W4.cell? ⟨kx, 1, none⟩ = some (.int .i64 TT) := by rw [cell_of HO4.out]; rfl
              have hll := HL4.out
              have hln : ¬ s4.line < s.line := by omega
              have HNB := Lib.hid (none_below HST4.out)
              go_wp2_with fail
              refine (sline_ok b 200 s4 W4 HS4.out (by omega)).mono ?_
              rintro e w' ⟨rfl, rfl⟩
              have hb4 := HST4.out.l0
              have hb5 := HST4.out.l1
              have hb6 := HST4.out.m1
              go_wp2_with fail
              refine (sline_ok b 200 s4 W4 HS4.out (by omega)).mono ?_
              rintro e w' ⟨rfl, rfl⟩
              go_wp2_with fail
              refine (range_ser b 200 s4 0 (s4.line - 1) W4 HS4.out (by omega) HST4.out.rise (by omega)).mono ?_
              rintro e W5 ⟨a5, c5, rfl, _, b5⟩
              have B5 := B4.trans (b5.mono B4.size)
              have HS5 := Lib.hid (HS4.out.keepB b5)
              rw [HNB.out]
              clear b5 y0 y1
              go_wp2
              go_roundw
              case rel => exact ⟨j + 1, s4, by omega, by omega, by go_num, HS5.out, HST4.out, hl4, B5⟩
              case measure => simp [intOf]; omega
            · clear h8
              have HS4 := Lib.hid S4
              have B4 := bel_gb B2 B2.size hb g4
              have HO4 := Lib.hid ((g4.block kx n2 (by simp; omega)).trans HO.out)
              have n4 := Nat.lt_of_lt_of_le n2 g4.size
              clear S4 g4 y0 y1 y2 y3 HO HS1
              have y0 : W4.cell? ⟨kx, 0, none⟩ = some (.int .i64 K) := by rw [cell_of HO4.out]; rfl
              have y1 : W4.cell? ⟨kx, 1, none⟩ = some (.int .i64 TT) := by rw [cell_of HO4.out]; rfl
              have hll := HL4.out
              have hln : ¬ s4.line < s.line := by omega
              have HNB := Lib.hid (none_below HST4.out)
              go_wp2_with fail
              refine (sline_ok b 200 s4 W4 HS4.out (by omega)).mono ?_
              rintro e w' ⟨rfl, rfl⟩
              have hb4 := HST4.out.l0
              have hb5 := HST4.out.l1
              have hb6 := HST4.out.m1
              go_wp2_with fail
              refine (sline_ok b 200 s4 W4 HS4.out (by omega)).mono ?_
              rintro e w' ⟨rfl, rfl⟩
              go_wp2_with fail
              refine (range_ser b 200 s4 0 (s4.line - 1) W4 HS4.out (by omega) HST4.out.rise (by omega)).mono ?_
              rintro e W5 ⟨a5, c5, rfl, _, b5⟩
              have B5 := B4.trans (b5.mono B4.size)
              have HS5 := Lib.hid (HS4.out.keepB b5)
              rw [HNB.out]
              clear b5 y0 y1
              go_wp2
              go_roundw
              case rel => exact ⟨j + 1, s4, by omega, by omega, by go_num, HS5.out, HST4.out, hl4, B5⟩
              case measure => simp [intOf]; omega
      · have hjh' : ¬ (j : Int) < 60 := by omega
        have hj1 : (j : Int) < (len : Int) := by omega
        have hsl' : s.z.length ≤ 60 := by omega
        clear hsl
        have HON := Lib.hid (on_line HST.out t)
        go_wp2_with fail
        refine (copy_ser b 200 s wr HS.out (by omega) (by omega)).mono ?_
        rintro e W3 ⟨o, rfl, ho, S3, b3⟩
        have HO3 := Lib.hid S3
        have HS3 := Lib.hid (HS.out.keepB b3)
        have B3 := B1.trans (b3.mono B1.size)
        have hbo : b < o := Nat.lt_of_lt_of_le HS.out.lt ho
        clear S3 b3 ho
        go_wp2_with fail
        refine (sline_ok b 200 s W3 HS3.out (by omega)).mono ?_
        rintro e w' ⟨rfl, rfl⟩
        go_wp2_with fail
        refine (add_at5 o 200 s _ s.line t 3 0 W3 HON.out rfl HO3.out HST.out (by omega) (by omega) (by omega) ⟨by omega, by omega⟩).mono ?_
        rintro e W4 ⟨rfl, S4, g4⟩
        have B4 := bel_gb B3 B3.size (Nat.le_trans hb (Nat.le_of_lt hbo)) g4
        have HS4 := Lib.hid (HS3.out.keepS g4 (by omega) HO3.out)
        clear S4 g4
        by_cases hz : s.line = 0
        · have hzb : (s.line == 0) = true := by rw [beq_iff_eq]; exact hz
          clear hz
          go_wp2_with fail
          refine (sknown_any W4).mono ?_
          rintro e W9 ⟨rfl, b9⟩
          have B9 := B4.trans (b9.mono B4.size)
          clear b9
          go_wp2
          go_ret
          exact ⟨rfl, B9⟩
        · have hzb : (s.line == 0) = false := by rw [beq_eq_false_iff_ne]; exact hz
          have HOL := Lib.hid ((old_iff s (s.line - 1) 0).2 ⟨by omega, by omega, by omega⟩)
          clear hz
          go_wp2_with fail
          refine (add_at5 b 200 s _ (s.line - 1) 0 3 7 W4 HOL.out rfl HS4.out HST.out (by omega) (by omega) (by omega) ⟨by omega, by omega⟩).mono ?_
          rintro e W5 ⟨rfl, S5, g5⟩
          have B5 := bel_gb B4 B4.size hb g5
          clear S5 g5
          go_wp2_with fail
          refine (sknown_any W5).mono ?_
          rintro e W9 ⟨rfl, b9⟩
          have B9 := B5.trans (b9.mono B5.size)
          clear b9
          go_wp2
          go_ret
          exact ⟨rfl, B9⟩
    · have hj1 : ¬ (j : Int) < (len : Int) := by omega
      have hsl' : s.z.length ≤ 60 := by omega
      clear hsl
      have HON := Lib.hid (on_line HST.out t)
      go_wp2_with fail
      refine (copy_ser b 200 s wr HS.out (by omega) (by omega)).mono ?_
      rintro e W3 ⟨o, rfl, ho, S3, b3⟩
      have HO3 := Lib.hid S3
      have HS3 := Lib.hid (HS.out.keepB b3)
      have B3 := B1.trans (b3.mono B1.size)
      have hbo : b < o := Nat.lt_of_lt_of_le HS.out.lt ho
      clear S3 b3 ho
      go_wp2_with fail
      refine (sline_ok b 200 s W3 HS3.out (by omega)).mono ?_
      rintro e w' ⟨rfl, rfl⟩
      go_wp2_with fail
      refine (add_at5 o 200 s _ s.line t 3 0 W3 HON.out rfl HO3.out HST.out (by omega) (by omega) (by omega) ⟨by omega, by omega⟩).mono ?_
      rintro e W4 ⟨rfl, S4, g4⟩
      have B4 := bel_gb B3 B3.size (Nat.le_trans hb (Nat.le_of_lt hbo)) g4
      have HS4 := Lib.hid (HS3.out.keepS g4 (by omega) HO3.out)
      clear S4 g4
      by_cases hz : s.line = 0
      · have hzb : (s.line == 0) = true := by rw [beq_iff_eq]; exact hz
        clear hz
        go_wp2_with fail
        refine (sknown_any W4).mono ?_
        rintro e W9 ⟨rfl, b9⟩
        have B9 := B4.trans (b9.mono B4.size)
        clear b9
        go_wp2
        go_ret
        exact ⟨rfl, B9⟩
      · have hzb : (s.line == 0) = false := by rw [beq_eq_false_iff_ne]; exact hz
        have HOL := Lib.hid ((old_iff s (s.line - 1) 0).2 ⟨by omega, by omega, by omega⟩)
        clear hz
        go_wp2_with fail
        refine (add_at5 b 200 s _ (s.line - 1) 0 3 7 W4 HOL.out rfl HS4.out HST.out (by omega) (by omega) (by omega) ⟨by omega, by omega⟩).mono ?_
        rintro e W5 ⟨rfl, S5, g5⟩
        have B5 := bel_gb B4 B4.size hb g5
        clear S5 g5
        go_wp2_with fail
        refine (sknown_any W5).mono ?_
        rintro e W9 ⟨rfl, b9⟩
        have B9 := B5.trans (b9.mono B5.size)
        clear b9
        go_wp2
        go_ret
        exact ⟨rfl, B9⟩
set_option maxRecDepth 100000 in
theorem lifted (os : Os) (started : os.Started) (H : Type) (enc : TypeId × Value → H) :
    ReturnsInHanded {} Try.checked os 5 .any (Rows.seriesLineSpec.pre6 enc Try.prog Try.f5 Rows.seriesLineRow.domain false) (Rows.seriesLineSpec.post enc Try.prog Try.f5 false true false false) := by
  refine returnsInHanded_of_change (C := Try.checked) own started (by kernel_rfl) Try.func5
    (ChangeSpec.witness6 (enc := enc) (C := Try.checked) false ⟨#[], #[.int .u8 0, .slice none 0 0, .int .u8 0], []⟩ 8 (by kernel_rfl) (by kernel_rfl) (by kernel_rfl) (by kernel_rfl)) ?_
  intro W base args ds gs before hval0 hW hcnd _
  have hval : ∀ (j : Nat) t v, Try.f5.params[j]? = some t → args[j]? = some v → Value.okWide Try.prog W .any base t v := hval0
  have hW' := hW
  obtain ⟨p, q, hA0, hV, rfl, hfz, hnd⟩ := hW
  have hA : DataW.TrodAll enc Try.prog W 0 (fun _ => true) true Try.f5.params.toList args.toList ds p := hA0
  rw [Try.params5] at hA hval
  obtain ⟨v0, vs0, d0, ds0, p0, q0, hargs, rfl, rfl, h0, r0⟩ := trodAll_cons hA
  obtain ⟨v1, vs1, d1, ds1, p1, q1, rfl, rfl, rfl, h1, r1⟩ := trodAll_cons r0
  obtain ⟨v2, vs2, d2, ds2, p2, q2, rfl, rfl, rfl, h2, r2⟩ := trodAll_cons r1
  obtain ⟨rfl, rfl, rfl⟩ := trodAll_nil r2
  obtain rfl : args = #[v0, v1, v2] := by cases args; simp_all
  obtain ⟨rfl, rfl⟩ := trodVars_none hV
  obtain ⟨a0, rfl, rfl, rfl, w0⟩ := open_int Try.underlying5 (hval 0 5 v0 rfl rfl) h0
  obtain ⟨a1, len1, cap1, rfl⟩ := okWide_slice Try.underlying23 (hval 1 23 v1 rfl rfl)
  have k1 := h1
  have lt1 : ∀ x ∈ p1, x.block < W.heap.size := by obtain ⟨m, hm⟩ := k1; exact DataW.trod_lt m _ _ _ hm
  obtain ⟨z1, w1⟩ := open_sops h1
  obtain ⟨a2, rfl, rfl, rfl, w2⟩ := open_int Try.underlying5 (hval 2 5 v2 rfl rfl) h2
  clear hA0 hval0
  refine (walk a0 a1 len1 cap1 z1 a2 W w0 w1 w2).mono fun e W' ⟨he, bel⟩ => ?_
  subst he
  exact ⟨_, rfl, _, _, _, [], _, [], hW', trodAll_mk1 (shut_bool Try.underlying4 _), (trodAll_cons_mk (shut_int Try.underlying5 w0) (trodAll_cons_mk (Below.trod laidOut (by kernel_rfl) (of_decide_eq_true (by kernel_rfl)) k1 bel lt1) (trodAll_cons_mk (shut_int Try.underlying5 w2) trodAll_mk0))), rfl, bel.frame _, fun h => by cases h⟩

theorem over : Rows.seriesLineRow.holds Try.pinned (OpenSpec.ofChange Rows.seriesLineSpec) :=
  OpenClaim.holds_of_wide 5 Try.f5 rfl rfl rfl rfl rfl rfl rfl ⟨rfl, rfl, rfl, rfl, rfl⟩ rfl rfl rfl rfl rfl (by kernel_rfl) Try.func5 (by kernel_rfl)
    (of_decide_eq_true (by kernel_rfl)) (by unfold Func.isWrapper; first | (rw [if_pos (by decide +kernel)]; kernel_rfl) | (rw [if_neg (by decide +kernel)]; exact ⟨rfl, rfl⟩))
    (fun os started H enc _ => lifted os started H enc)

theorem proved : Rows.SeriesLineSaid := over
end seriesLine
theorem seriesLine_holds : Rows.SeriesLineSaid := seriesLine.proved
#print axioms seriesLine_holds
end Go.Proofs.Ytpbhdlhbcfkhfaa
