/-
  Contract of series.Add.
-/
import Derived.Test.YtpbhdlhbcfkhfaaGreatSAdd
namespace Go.Proofs.YtpbhdlhbcfkhfaaGreat
open Go.RowKit
set_option linter.unusedVariables false
set_option linter.unusedSimpArgs false

set_option maxRecDepth 100000 in
set_option maxHeartbeats 2000000 in
theorem add_ser (b : Nat) (sz : Int) (s : Ser) (T V p : Int) (w : World) (h : SerAt w b sz s) (hS : Std s) (hs : 128 ≤ sz) (hs2 : sz ≤ 4096) (hn : s.z.length ≤ 90000) (hV : in64 V) :
    Calls Tryz.prog 6 #[.pointer (some ⟨b, 0, none⟩), .agg #[.int .i64 T, .int .i64 V], .int .i64 p] w (PutP b sz (addE s T V p) (addS5 s T V p) w) := by
  have HS := Lib.hid h
  obtain ⟨v, hc⟩ := h.cell
  have HC := Lib.hid hc
  have hblt := hc.lt
  have HST := Lib.hid hS
  obtain ⟨q, hq⟩ : ∃ q, polS s p = q := ⟨_, rfl⟩
  have HQ := Lib.hid hq
  have B0 := (Below.refl w.heap.size w).alloc (Nat.le_refl _) (.cells #[.int .i64 T, .int .i64 V] 33)
  have hn0 := heap_new w (.cells #[.int .i64 T, .int .i64 V] 33)
  have s0 : w.heap.size < (w.alloc (.cells #[.int .i64 T, .int .i64 V] 33)).heap.size := by simp
  have hc0 := heap_old (o := .cells #[.int .i64 T, .int .i64 V] 33) hc
  have HS0 := Lib.hid (HS.out.keepN (World.grownBy_alloc w (.cells #[.int .i64 T, .int .i64 V] 33) none))
  have hq2 : (p = 0 ∧ q = s.pol) ∨ (p ≠ 0 ∧ q = p) := by
    unfold polS at hq
    split at hq
    · rename_i h; exact .inl ⟨h, hq.symm⟩
    · rename_i h; exact .inr ⟨h, hq.symm⟩
  clear h hc hS hq
  generalize hW0 : w.alloc (.cells #[.int .i64 T, .int .i64 V] 33) = W0 at *
  have t0 : W0.cell? ⟨w.heap.size, 0, none⟩ = some (.int .i64 T) := by rw [cell_of hn0]; rfl
  have t1 : W0.cell? ⟨w.heap.size, 1, none⟩ = some (.int .i64 V) := by rw [cell_of hn0]; rfl
  have c4 : W0.cell? ⟨b, 4, none⟩ = some (.int .i64 s.line) := by rw [cell_of hc0]; rfl
  have c3 : W0.cell? ⟨b, 3, none⟩ = some (.int .i64 s.mx) := by rw [cell_of hc0]; rfl
  have HW0 := Lib.hid hW0
  have HC0 := Lib.hid hc0
  clear hW0 hc0
  rcases hq2 with ⟨hp0, hqp⟩ | ⟨hp0, hqp⟩
  · subst hp0
    have c2 : W0.cell? ⟨b, 2, none⟩ = some (.int .i64 q) := by rw [hqp, cell_of HC0.out]; rfl
    clear hqp
    go_enter Tryz.func6, Tryz.ntmps6
    go_wp2_with fail
    rw [HW0.out]
    refine (sNone_no b sz _ _ _ _ v W0 HC0.out (by omega)).mono ?_
    rintro e w' ⟨rfl, rfl⟩
    by_cases hT : T < 0
    · have HE := Lib.hid (show addE s T V 0 = 1 from by unfold addE; rw [if_pos (.inl hT)])
      have HA := Lib.hid (show addS5 s T V 0 = s from by unfold addS5; rw [HE.out, if_neg (by omega)])
      go_wp2
      go_ret
      exact ⟨by rw [HE.out]; rfl, by rw [HA.out]; exact HS0.out, gb_below B0⟩
    · by_cases hT2 : T ≥ 1099511627776
      · have HE := Lib.hid (show addE s T V 0 = 1 from by unfold addE; rw [if_pos (.inr (.inl hT2))])
        have HA := Lib.hid (show addS5 s T V 0 = s from by unfold addS5; rw [HE.out, if_neg (by omega)])
        go_wp2
        go_ret
        exact ⟨by rw [HE.out]; rfl, by rw [HA.out]; exact HS0.out, gb_below B0⟩
      · by_cases hqr : 1 ≤ q ∧ q ≤ 6
        · have HQR := Lib.hid (decide_eq_true hqr)
          have HNB := Lib.hid (show ¬ badS s T 0 from by unfold badS; rw [HQ.out]; omega)
          go_wp2_with fail
          refine (sright_is q true W0 HQR.out).mono ?_
          rintro e w' ⟨rfl, rfl⟩
          by_cases hold : T < s.line
          · have HE := Lib.hid (show addE s T V 0 = 7 from by unfold addE; rw [if_neg HNB.out, if_pos hold])
            have HA := Lib.hid (show addS5 s T V 0 = s from by unfold addS5; rw [HE.out, if_neg (by omega)])
            go_wp2_with fail
            go_quiet (fail)
            have BD : Below w.heap.size w (W0.drewN nq) := B0.trans ((drew_below ⟨nq, rfl⟩).mono B0.size)
            have HSD : Hid (SerAt (W0.drewN nq) b sz s) := Lib.hid (HS0.out.keepN (Drew.gb ⟨nq, rfl⟩ none))
            generalize W0.drewN nq = W1 at *
            go_wp2
            go_ret
            exact ⟨by rw [HE.out]; rfl, by rw [HA.out]; exact HSD.out, gb_below BD⟩
          · have HE := Lib.hid (show addE s T V 0 = (newV s.z T V q).2 from by unfold addE; rw [if_neg HNB.out, if_neg hold, HQ.out])
            have HA1 := Lib.hid (show (newV s.z T V q).2 ≠ 0 → addS5 s T V 0 = s from fun hh => by unfold addS5; rw [HE.out, if_neg hh])
            have HA0 := Lib.hid (show (newV s.z T V q).2 = 0 → addS5 s T V 0 = trimS ⟨s.ret, s.pol, max s.mx T, s.line, insL s.z T (newV s.z T V q).1⟩ from fun hh => by unfold addS5; rw [HE.out, if_pos hh, HQ.out])
            have HI1 := Lib.hid (show (newV s.z T V q).2 ≠ 0 → insS s T V q = s from fun hh => by unfold insS; rw [if_neg hh])
            have HI0 := Lib.hid (show (newV s.z T V q).2 = 0 → insS s T V q = ⟨s.ret, s.pol, s.mx, s.line, insL s.z T (newV s.z T V q).1⟩ from fun hh => by unfold insS; rw [if_pos hh])
            go_wp2_with fail
            go_quiet (fail)
            have BD : Below w.heap.size w (W0.drewN nq) := B0.trans ((drew_below ⟨nq, rfl⟩).mono B0.size)
            have HSD : Hid (SerAt (W0.drewN nq) b sz s) := Lib.hid (HS0.out.keepN (Drew.gb ⟨nq, rfl⟩ none))
            have d0 : (W0.drewN nq).cell? ⟨w.heap.size, 0, none⟩ = some (.int .i64 T) := ((drew_below (w := W0) ⟨nq, rfl⟩).cell s0).trans t0
            have d1 : (W0.drewN nq).cell? ⟨w.heap.size, 1, none⟩ = some (.int .i64 V) := ((drew_below (w := W0) ⟨nq, rfl⟩).cell s0).trans t1
            have sD : w.heap.size < (W0.drewN nq).heap.size := Nat.lt_of_lt_of_le s0 (drew_below (w := W0) ⟨nq, rfl⟩).size
            generalize W0.drewN nq = W1 at *
            clear t0 t1 c3 c4
            go_wp2_with fail
            refine (put_any b sz s T V q W1 HSD.out hs hs2 HST.out.rise (by omega) (by omega) (by omega) hV hqr).mono ?_
            rintro e W2 ⟨rfl, S2, g2⟩
            have G2 := Lib.hid (gb_trans (gb_below (row := some b) BD) g2)
            have d2 : W2.cell? ⟨w.heap.size, 0, none⟩ = some (.int .i64 T) := g2.cell d0 (by simp; omega)
            have HS2 := Lib.hid S2
            clear S2 g2
            obtain ⟨er, her⟩ : ∃ er, (newV s.z T V q).2 = er := ⟨_, rfl⟩
            obtain ⟨vv, hvv⟩ : ∃ vv, (newV s.z T V q).1 = vv := ⟨_, rfl⟩
            rw [her] at HE HA1 HA0 HI1 HI0 ⊢
            rw [hvv] at HA0 HI0
            clear her hvv
            by_cases he0 : er = 0
            · subst he0
              rw [HI0.out rfl] at HS2
              have HA2 := Lib.hid (HA0.out rfl)
              clear HA0 HI0
              obtain ⟨u2, hu2⟩ := HS2.out.cell
              have c3 : W2.cell? ⟨b, 3, none⟩ = some (.int .i64 s.mx) := by rw [cell_of hu2]; rfl
              have f3 := frozen_of (o := 3) hu2
              clear hu2
              have hd : (T ≤ s.mx ∧ max s.mx T = s.mx) ∨ (¬ (T ≤ s.mx) ∧ max s.mx T = T) := by omega
              rcases hd with ⟨hd, hl⟩ | ⟨hd, hl⟩
              all_goals
                have HL := Lib.hid hl
                clear hl
                go_wp2_with fail
                go_region
              all_goals
                have HL' := HL.out
                rw [← HL']
                have S3 : Hid (SerAt (W2.setCell ⟨b, 3, none⟩ (.int .i64 (max s.mx T))).drew b sz ⟨s.ret, s.pol, max s.mx T, s.line, insL s.z T vv⟩) := Lib.hid (HS2.out.setMax (max s.mx T))
                have G3 : Hid (w.grownBy (W2.setCell ⟨b, 3, none⟩ (.int .i64 (max s.mx T))).drew (some b)) := Lib.hid (gb_drew (gb_set G2.out _ _))
                clear HL' HL d2 c3 f3
                generalize (W2.setCell ⟨b, 3, none⟩ (.int .i64 (max s.mx T))).drew = W3 at *
                have hst := HST.out
                have hm0 := hst.m0
                have hm1 := hst.m1
                have hl1 := hst.l1
                have hln : (insL s.z T vv).length ≤ 100000 := by rw [insL_length _ _ _ hst.rise]; omega
                go_wp2_with fail
                refine (trim_any b sz ⟨s.ret, s.pol, max s.mx T, s.line, insL s.z T vv⟩ W3 S3.out hs hs2 (insL_rising hst.rise _ _) hln hst.r0 hst.r1 (by show -1 ≤ max s.mx T; omega) (by show max s.mx T < _; omega) hst.l0 (by show s.line < _; omega)).mono ?_
                rintro e W4 ⟨⟨u, rfl⟩, S4, g4⟩
                have HS4 := Lib.hid S4
                have HG4 := Lib.hid (gb_trans G3.out g4)
                clear S4 g4 hst
                go_wp2
                go_ret
                exact ⟨by rw [HE.out]; rfl, by rw [HA2.out]; exact HS4.out, HG4.out⟩
            · have heb : (er != 0) = true := by simpa using he0
              have heb2 : (er == 0) = false := by simpa using he0
              have HH := Lib.hid he0
              clear he0
              rw [HI1.out HH.out] at HS2
              go_wp2
              go_ret
              exact ⟨by rw [HE.out]; rfl, by rw [HA1.out HH.out]; exact HS2.out, G2.out⟩
        · have HE := Lib.hid (show addE s T V 0 = 1 from by unfold addE; rw [if_pos (.inr (.inr (by rw [HQ.out]; exact hqr)))])
          have HA := Lib.hid (show addS5 s T V 0 = s from by unfold addS5; rw [HE.out, if_neg (by omega)])
          have HQR := Lib.hid (decide_eq_false hqr)
          clear hqr
          go_wp2_with fail
          refine (sright_is q false W0 HQR.out).mono ?_
          rintro e w' ⟨rfl, rfl⟩
          go_wp2
          go_ret
          exact ⟨by rw [HE.out]; rfl, by rw [HA.out]; exact HS0.out, gb_below B0⟩
  · subst hqp
    have hpb : (q == 0) = false := by rw [beq_eq_false_iff_ne]; exact hp0
    clear hp0
    go_enter Tryz.func6, Tryz.ntmps6
    go_wp2_with fail
    rw [HW0.out]
    refine (sNone_no b sz _ _ _ _ v W0 HC0.out (by omega)).mono ?_
    rintro e w' ⟨rfl, rfl⟩
    by_cases hT : T < 0
    · have HE := Lib.hid (show addE s T V q = 1 from by unfold addE; rw [if_pos (.inl hT)])
      have HA := Lib.hid (show addS5 s T V q = s from by unfold addS5; rw [HE.out, if_neg (by omega)])
      go_wp2
      go_ret
      exact ⟨by rw [HE.out]; rfl, by rw [HA.out]; exact HS0.out, gb_below B0⟩
    · by_cases hT2 : T ≥ 1099511627776
      · have HE := Lib.hid (show addE s T V q = 1 from by unfold addE; rw [if_pos (.inr (.inl hT2))])
        have HA := Lib.hid (show addS5 s T V q = s from by unfold addS5; rw [HE.out, if_neg (by omega)])
        go_wp2
        go_ret
        exact ⟨by rw [HE.out]; rfl, by rw [HA.out]; exact HS0.out, gb_below B0⟩
      · by_cases hqr : 1 ≤ q ∧ q ≤ 6
        · have HQR := Lib.hid (decide_eq_true hqr)
          have HNB := Lib.hid (show ¬ badS s T q from by unfold badS; rw [HQ.out]; omega)
          go_wp2_with fail
          refine (sright_is q true W0 HQR.out).mono ?_
          rintro e w' ⟨rfl, rfl⟩
          by_cases hold : T < s.line
          · have HE := Lib.hid (show addE s T V q = 7 from by unfold addE; rw [if_neg HNB.out, if_pos hold])
            have HA := Lib.hid (show addS5 s T V q = s from by unfold addS5; rw [HE.out, if_neg (by omega)])
            go_wp2_with fail
            go_quiet (fail)
            have BD : Below w.heap.size w (W0.drewN nq) := B0.trans ((drew_below ⟨nq, rfl⟩).mono B0.size)
            have HSD : Hid (SerAt (W0.drewN nq) b sz s) := Lib.hid (HS0.out.keepN (Drew.gb ⟨nq, rfl⟩ none))
            generalize W0.drewN nq = W1 at *
            go_wp2
            go_ret
            exact ⟨by rw [HE.out]; rfl, by rw [HA.out]; exact HSD.out, gb_below BD⟩
          · have HE := Lib.hid (show addE s T V q = (newV s.z T V q).2 from by unfold addE; rw [if_neg HNB.out, if_neg hold, HQ.out])
            have HA1 := Lib.hid (show (newV s.z T V q).2 ≠ 0 → addS5 s T V q = s from fun hh => by unfold addS5; rw [HE.out, if_neg hh])
            have HA0 := Lib.hid (show (newV s.z T V q).2 = 0 → addS5 s T V q = trimS ⟨s.ret, s.pol, max s.mx T, s.line, insL s.z T (newV s.z T V q).1⟩ from fun hh => by unfold addS5; rw [HE.out, if_pos hh, HQ.out])
            have HI1 := Lib.hid (show (newV s.z T V q).2 ≠ 0 → insS s T V q = s from fun hh => by unfold insS; rw [if_neg hh])
            have HI0 := Lib.hid (show (newV s.z T V q).2 = 0 → insS s T V q = ⟨s.ret, s.pol, s.mx, s.line, insL s.z T (newV s.z T V q).1⟩ from fun hh => by unfold insS; rw [if_pos hh])
            go_wp2_with fail
            go_quiet (fail)
            have BD : Below w.heap.size w (W0.drewN nq) := B0.trans ((drew_below ⟨nq, rfl⟩).mono B0.size)
            have HSD : Hid (SerAt (W0.drewN nq) b sz s) := Lib.hid (HS0.out.keepN (Drew.gb ⟨nq, rfl⟩ none))
            have d0 : (W0.drewN nq).cell? ⟨w.heap.size, 0, none⟩ = some (.int .i64 T) := ((drew_below (w := W0) ⟨nq, rfl⟩).cell s0).trans t0
            have d1 : (W0.drewN nq).cell? ⟨w.heap.size, 1, none⟩ = some (.int .i64 V) := ((drew_below (w := W0) ⟨nq, rfl⟩).cell s0).trans t1
            have sD : w.heap.size < (W0.drewN nq).heap.size := Nat.lt_of_lt_of_le s0 (drew_below (w := W0) ⟨nq, rfl⟩).size
            generalize W0.drewN nq = W1 at *
            clear t0 t1 c3 c4
            go_wp2_with fail
            refine (put_any b sz s T V q W1 HSD.out hs hs2 HST.out.rise (by omega) (by omega) (by omega) hV hqr).mono ?_
            rintro e W2 ⟨rfl, S2, g2⟩
            have G2 := Lib.hid (gb_trans (gb_below (row := some b) BD) g2)
            have d2 : W2.cell? ⟨w.heap.size, 0, none⟩ = some (.int .i64 T) := g2.cell d0 (by simp; omega)
            have HS2 := Lib.hid S2
            clear S2 g2
            obtain ⟨er, her⟩ : ∃ er, (newV s.z T V q).2 = er := ⟨_, rfl⟩
            obtain ⟨vv, hvv⟩ : ∃ vv, (newV s.z T V q).1 = vv := ⟨_, rfl⟩
            rw [her] at HE HA1 HA0 HI1 HI0 ⊢
            rw [hvv] at HA0 HI0
            clear her hvv
            by_cases he0 : er = 0
            · subst he0
              rw [HI0.out rfl] at HS2
              have HA2 := Lib.hid (HA0.out rfl)
              clear HA0 HI0
              obtain ⟨u2, hu2⟩ := HS2.out.cell
              have c3 : W2.cell? ⟨b, 3, none⟩ = some (.int .i64 s.mx) := by rw [cell_of hu2]; rfl
              have f3 := frozen_of (o := 3) hu2
              clear hu2
              have hd : (T ≤ s.mx ∧ max s.mx T = s.mx) ∨ (¬ (T ≤ s.mx) ∧ max s.mx T = T) := by omega
              rcases hd with ⟨hd, hl⟩ | ⟨hd, hl⟩
              all_goals
                have HL := Lib.hid hl
                clear hl
                go_wp2_with fail
                go_region
              all_goals
                have HL' := HL.out
                rw [← HL']
                have S3 : Hid (SerAt (W2.setCell ⟨b, 3, none⟩ (.int .i64 (max s.mx T))).drew b sz ⟨s.ret, s.pol, max s.mx T, s.line, insL s.z T vv⟩) := Lib.hid (HS2.out.setMax (max s.mx T))
                have G3 : Hid (w.grownBy (W2.setCell ⟨b, 3, none⟩ (.int .i64 (max s.mx T))).drew (some b)) := Lib.hid (gb_drew (gb_set G2.out _ _))
                clear HL' HL d2 c3 f3
                generalize (W2.setCell ⟨b, 3, none⟩ (.int .i64 (max s.mx T))).drew = W3 at *
                have hst := HST.out
                have hm0 := hst.m0
                have hm1 := hst.m1
                have hl1 := hst.l1
                have hln : (insL s.z T vv).length ≤ 100000 := by rw [insL_length _ _ _ hst.rise]; omega
                go_wp2_with fail
                refine (trim_any b sz ⟨s.ret, s.pol, max s.mx T, s.line, insL s.z T vv⟩ W3 S3.out hs hs2 (insL_rising hst.rise _ _) hln hst.r0 hst.r1 (by show -1 ≤ max s.mx T; omega) (by show max s.mx T < _; omega) hst.l0 (by show s.line < _; omega)).mono ?_
                rintro e W4 ⟨⟨u, rfl⟩, S4, g4⟩
                have HS4 := Lib.hid S4
                have HG4 := Lib.hid (gb_trans G3.out g4)
                clear S4 g4 hst
                go_wp2
                go_ret
                exact ⟨by rw [HE.out]; rfl, by rw [HA2.out]; exact HS4.out, HG4.out⟩
            · have heb : (er != 0) = true := by simpa using he0
              have heb2 : (er == 0) = false := by simpa using he0
              have HH := Lib.hid he0
              clear he0
              rw [HI1.out HH.out] at HS2
              go_wp2
              go_ret
              exact ⟨by rw [HE.out]; rfl, by rw [HA1.out HH.out]; exact HS2.out, G2.out⟩
        · have HE := Lib.hid (show addE s T V q = 1 from by unfold addE; rw [if_pos (.inr (.inr (by rw [HQ.out]; exact hqr)))])
          have HA := Lib.hid (show addS5 s T V q = s from by unfold addS5; rw [HE.out, if_neg (by omega)])
          have HQR := Lib.hid (decide_eq_false hqr)
          clear hqr
          go_wp2_with fail
          refine (sright_is q false W0 HQR.out).mono ?_
          rintro e w' ⟨rfl, rfl⟩
          go_wp2
          go_ret
          exact ⟨by rw [HE.out]; rfl, by rw [HA.out]; exact HS0.out, gb_below B0⟩

end Go.Proofs.YtpbhdlhbcfkhfaaGreat
