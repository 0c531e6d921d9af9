/-
  The statement 'GraphOf' of layer 11: all rules are those of their sources, one source behind the other; each goes into one key.
  No condition on the arguments.
-/
import Derived.Test.YtlogkhifgkkjeaaGKnown
import Derived.Test.YtlogkhifgkkjeaaGArgs
import Derived.Test.YtlogkhifgkkjeaaRows
import Derived.Test.YtlogkhifgkkjeaaGUse
import Derived.Test.YtlogkhifgkkjeaaGGroup
import Derived.ChangeOld
namespace Go.Proofs.Ytlogkhifgkkjeaa
namespace graphOf
open Go.ChangeShapes Go.WideShapes Go.ChangeAt Go.RowKit
open Go.ChangeMaps (open_string shut_string)
set_option linter.unusedVariables false
set_option linter.unusedSimpArgs false

theorem own : ownKnob Try.prog.godebug = none := by kernel_rfl

set_option maxRecDepth 100000 in
set_option maxHeartbeats 16000000 in
theorem walk (a : Option Addr) (n c : Nat) (z : List OpG) (w : World) (h : OpAt w a n c z) :
    Calls Try.prog 7 #[.slice a n c] w fun e w' => e = .returned (.bool true) ∧ Below w.heap.size w w' := by
  have HOp := Lib.hid h
  clear h
  go_enter Try.func7, Try.ntmps7
  go_wp2_with fail
  refine (gnew_any _).mono ?_
  rintro e W2 ⟨x, bi, bf, F0, rfl, hg, hb, hx, hF⟩
  have X : Hid (GOwn w.heap.size w W2 x bi bf F0 []) := Lib.hid (GOwn.new (Below.refl _ _) (Nat.le_refl _) hg hb hx hF)
  clear hg hb hx hF
  go_wp2
  go_loopw [4] (fun i wr => ∃ (j : Nat) (F : Nat → Prop) (L : List Ru), j ≤ 40 ∧ i = .int .i64 (j : Int) ∧ Hid (GOwn w.heap.size w wr x bi bf F L) ∧ Hid (L.length ≤ j)) (fun i _ => 40 - (intOf i).toNat)
  case atStart => exact ⟨0, F0, [], by omega, rfl, X, Lib.hid (Nat.le_refl _)⟩
  case round =>
    obtain ⟨j, F, L, hj, rfl, X, HL⟩ := hrel
    have hl := HL.out
    have hj0 : (0 : Int) ≤ (j : Int) := by omega
    by_cases hjn : j < n
    · have hjz : (j : Int) < (n : Int) := by omega
      by_cases h40 : j < 40
      · have h40z : (j : Int) < 40 := by omega
        obtain ⟨b, off, rfl, hb, k0, x0, x1, x2, x3, x4⟩ := (HOp.out.keep X.out.bel).at_ j hjn
        have HAT := Lib.hid (fun W (hW : Below w.heap.size w W) => (HOp.out.keep hW).at_ j hjn)
        have HLI := Lib.hid (fun W => olight (opG z j).r W)
        generalize (opG z j).r = q at *
        unfold ruV at HLI
        by_cases hq : lightU q
        · rw [decide_eq_true hq] at HLI
          clear hq
          go_wp2_with fail
          refine (HLI.out _).mono ?_
          rintro e V1 ⟨rfl, br⟩
          have X2 := Lib.hid (X.out.keep br)

          clear x0 x1 x2 x3 x4 k0
          obtain ⟨b2, off2, e2, hb2, k0, x0, x1, x2, x3, x4⟩ := HAT.out V1 X2.out.bel
          cases e2
          clear br HAT HLI
          go_wp2_with fail
          refine (oadd q X2.out (by omega)).mono ?_
          rintro e V2 ⟨rfl, F2, oo, tt⟩

          have hl2 := Nat.le_trans (addU_len L q) (Nat.succ_le_succ hl)
          have OO := Lib.hid oo
          clear x0 x1 x2 x3 x4 k0 oo tt
          go_wp2
          go_roundw
          case rel => exact ⟨j + 1, F2, addU L q, by omega, by go_num, OO, Lib.hid hl2⟩
          case measure => simp [intOf]; omega
        · rw [decide_eq_false hq] at HLI
          clear hq
          go_wp2_with fail
          refine (HLI.out _).mono ?_
          rintro e V1 ⟨rfl, br⟩
          have X2 := Lib.hid (X.out.keep br)

          clear x0 x1 x2 x3 x4 k0 br HAT HLI
          go_wp2
          go_roundw
          case rel => exact ⟨j + 1, F, L, by omega, by go_num, X2, Lib.hid (by omega)⟩
          case measure => simp [intOf]; omega
      · have h40z : ¬ (j : Int) < 40 := by omega
        have hL : L.length ≤ 40 := by omega
        have HGL := Lib.hid X.out.gr.good
        go_wp2_with fail
        refine (oall X.out (by omega)).mono ?_
        rintro e V1 ⟨v5, rfl, rr, br⟩
        replace X := Lib.hid (X.out.keep br)
        obtain ⟨a5, c5, e5, hr5, _⟩ := rr.shape
        subst e5
        have H5 := Lib.hid hr5
        clear rr br hr5
        obtain ⟨m, hm⟩ : ∃ m, L.length = m := ⟨_, rfl⟩
        have HM := Lib.hid hm
        have HLL := Lib.hid hL
        have HLL2 := Lib.hid (show L.length ≤ 1000 from by omega)
        rw [hm] at H5 hL ⊢
        clear hm
        go_wp2
        go_loopw [6, 7] (fun o i wr => ∃ p : Nat, p ≤ m ∧ i = .int .i64 (p : Int) ∧ Hid (URow 31 wr V1.heap.size o (madeG L p)) ∧ Hid (Below V1.heap.size V1 wr)) (fun _ i _ => m - (intOf i).toNat)
        case atStart => exact ⟨0, Nat.zero_le _, rfl, Lib.hid (by rw [made_0]; exact URow.nil _ _ _), Lib.hid (Below.refl _ _)⟩
        case round =>
          obtain ⟨p, hp, rfl, R8, B8⟩ := hrel
          have X8 := Lib.hid (X.out.keep B8.out)
          have H8 := Lib.hid (H5.out.keep B8.out)
          by_cases hpm : p < m
          · have hpz : (p : Int) < (m : Int) := by omega
            have hp0 : (0 : Int) ≤ (p : Int) := by omega
            by_cases hpp : p = 0
            · have hp0z : ((p : Int) == 0) = true := by simp [hpp]
              have HNEW := Lib.hid (made_new HGL.out.ord (i := p) (by rw [HM.out]; exact hpm) (by rw [hpp]; exact seen_first L _))
              have hp00 : (p : Int) = 0 := by omega
              clear hpp
              go_wp2_with fail
              go_quiet (fail)
              clear hp0z hp00
              have hd4 : Below wr.heap.size wr (wr.drewN nq) := gb_below_none ((show Drew wr (wr.drewN nq) from ⟨nq, rfl⟩).gb none)
              replace X8 := Lib.hid (X8.out.keep hd4)
              replace R8 := Lib.hid (R8.out.keep hd4)
              replace H8 := Lib.hid (H8.out.keep hd4)
              replace B8 := Lib.hid (B8.out.trans (hd4.mono B8.out.size))
              generalize wr.drewN nq = V2 at *
              clear hd4
              obtain ⟨b3, off3, e3, hb3, x0, x1, x2, x3, x4⟩ := H8.out.at_ p hpm
              cases e3
              have C := oof (uA L p).src X8.out (Nat.le_trans HLL.out (by decide))
              have HC := Lib.hid C
              clear C
              have hofl : (ofL L (uA L p).src).length ≤ 40 := Nat.le_trans (ofL_le _ _) HLL.out
              have hmadel : (madeG L p).length ≤ 40 := Nat.le_trans (made_le _ _) HLL.out
              clear x1 x2 x3 x4
              generalize (uA L p).src = sp at *
              go_wp2_with fail
              refine HC.out.mono ?_
              rintro e V3 ⟨v66, rfl, r66, br⟩
              obtain ⟨a66, c66, e66, h66, _⟩ := r66.shape
              subst e66
              have H66 := Lib.hid h66
              have R7 := Lib.hid (R8.out.keep br)
              have B7 := Lib.hid (B8.out.trans (br.mono B8.out.size))
              clear r66 h66 br HC x0
              generalize hol : (ofL L sp).length = ol at *
              go_wp2_with (first
                | (at_builtin
                   refine wpList_append_gu rfl _ _ rfl V1.heap.size u6 (madeG L p) rfl R7.out a66 ol c66 (ofL L sp) rfl H66.out (by omega) B7.out.size ?_
                   intro v2 w2 R2 g2
                   have R3 : Hid (URow 31 w2 V1.heap.size v2 (madeG L (p + 1))) := Lib.hid (by rw [HNEW.out]; exact R2)
                   have B3 := Lib.hid (URow.bel B7.out B7.out.size R7.out (Nat.le_refl _) g2)
                   clear R2 g2 R7 H66))
              go_wp2
              go_loopw [8] (fun k wr3 => ∃ t : Nat, t ≤ p ∧ k = .int .i64 (t : Int) ∧ Hid (URow 31 wr3 V1.heap.size v2 (madeG L (p + 1))) ∧ Hid (Below V1.heap.size V1 wr3)) (fun k _ => p - (intOf k).toNat)
              case atStart => exact ⟨0, Nat.zero_le _, rfl, R3, B3⟩
              case round =>
                obtain ⟨t, ht, rfl, R4, B4⟩ := hrel
                have H9 := Lib.hid (H5.out.keep B4.out)
                by_cases htp : t < p
                · have htz : (t : Int) < (p : Int) := by omega
                  have htm : (t : Int) < (m : Int) := by omega
                  have hpm : (p : Int) < (m : Int) := by omega
                  have ht0 : (0 : Int) ≤ (t : Int) := by omega
                  have hp0 : (0 : Int) ≤ (p : Int) := by omega
                  obtain ⟨b3, off3, e3, hb3, x0, x1, x2, x3, x4⟩ := H9.out.at_ t (by omega)
                  obtain ⟨b4, off4, e4, hb4, y0, y1, y2, y3, y4⟩ := H9.out.at_ p (by omega)
                  cases e3
                  cases e4
                  have heq := eq_bs (uA L t).dst (uA L p).dst
                  rw [decide_eq_false (dst_ne HGL.out htp (by rw [HM.out]; omega))] at heq
                  clear x0 x2 x3 x4 y0 y2 y3 y4
                  generalize (uA L t).dst = d1 at *
                  generalize (uA L p).dst = d2 at *
                  have hsz := B4.out.size
                  go_wp2_with fail
                  go_quiet (fail)
                  have hd4 : Below wr.heap.size wr (wr.drewN nq) := gb_below_none ((show Drew wr (wr.drewN nq) from ⟨nq, rfl⟩).gb none)
                  have R6 := Lib.hid (R4.out.keep hd4)
                  have B6 := Lib.hid (B4.out.trans (hd4.mono hsz))
                  generalize wr.drewN nq = W9 at *
                  clear hd4 x1 y1 heq
                  go_wp2
                  go_roundw
                  case rel => exact ⟨t + 1, by omega, by go_num, R6, B6⟩
                  case measure => simp [intOf]; omega
                · have htz : ¬ (t : Int) < (p : Int) := by omega
                  obtain rfl : t = p := by omega
                  go_wp2
                  go_roundw
                  case rel => exact ⟨t + 1, by omega, by go_num, R4, B4⟩
                  case measure => simp [intOf]; omega
            · obtain ⟨t0, rfl⟩ : ∃ t0, p = t0 + 1 := ⟨p - 1, by omega⟩
              have hp0z : ¬ ((t0 + 1 : Nat) : Int) = 0 := by omega
              obtain ⟨b3, off3, e3, hb3, x0, x1, x2, x3, x4⟩ := H8.out.at_ (t0 + 1) hpm
              obtain ⟨b4, off4, e4, hb4, y0, y1, y2, y3, y4⟩ := H8.out.at_ t0 (by omega)
              cases e3
              cases e4
              have heq := eq_bs (uA L t0).src (uA L (t0 + 1)).src
              have HPREV := Lib.hid (seen_prev HGL.out.ord (i := t0 + 1) (by omega) (by rw [HM.out]; exact hpm))
              rw [show t0 + 1 - 1 = t0 from rfl] at HPREV
              have hw1 : IntKind.i64.wrap (((t0 + 1 : Nat) : Int) - 1) = (t0 : Int) := by
                rw [show ((t0 + 1 : Nat) : Int) - 1 = (t0 : Int) from by omega]
                exact IntWalk.i64_in _ (by omega)
              have ht0m : (t0 : Int) < (m : Int) := by omega
              have ht00 : (0 : Int) ≤ (t0 : Int) := by omega
              by_cases hsrc : (uA L t0).src = (uA L (t0 + 1)).src
              · rw [decide_eq_true hsrc] at heq HPREV
                have HSM := Lib.hid (made_same (i := t0 + 1) (by rw [HM.out]; exact hpm) HPREV.out)
                clear hsrc HPREV x1 x2 x3 x4 y1 y2 y3 y4
                generalize hpn : t0 + 1 = p at *
                clear hpn
                generalize (uA L t0).src = d1 at *
                generalize (uA L p).src = d2 at *
                go_wp2_with fail
                go_quiet (fail)
                clear x0 y0 heq hw1
                have hd4 : Below wr.heap.size wr (wr.drewN nq) := gb_below_none ((show Drew wr (wr.drewN nq) from ⟨nq, rfl⟩).gb none)
                replace X8 := Lib.hid (X8.out.keep hd4)
                replace R8 := Lib.hid (R8.out.keep hd4)
                replace H8 := Lib.hid (H8.out.keep hd4)
                replace B8 := Lib.hid (B8.out.trans (hd4.mono B8.out.size))
                generalize wr.drewN nq = V2 at *
                clear hd4
                have R3 : Hid (URow 31 V2 V1.heap.size u6 (madeG L (p + 1))) := Lib.hid (by rw [HSM.out]; exact R8.out)
                have B3 := B8
                clear R8 B8
                go_wp2
                go_loopw [8] (fun k wr3 => ∃ t : Nat, t ≤ p ∧ k = .int .i64 (t : Int) ∧ Hid (URow 31 wr3 V1.heap.size u6 (madeG L (p + 1))) ∧ Hid (Below V1.heap.size V1 wr3)) (fun k _ => p - (intOf k).toNat)
                case atStart => exact ⟨0, Nat.zero_le _, rfl, R3, B3⟩
                case round =>
                  obtain ⟨t, ht, rfl, R4, B4⟩ := hrel
                  have H9 := Lib.hid (H5.out.keep B4.out)
                  by_cases htp : t < p
                  · have htz : (t : Int) < (p : Int) := by omega
                    have htm : (t : Int) < (m : Int) := by omega
                    have hpm : (p : Int) < (m : Int) := by omega
                    have ht0 : (0 : Int) ≤ (t : Int) := by omega
                    have hp0 : (0 : Int) ≤ (p : Int) := by omega
                    obtain ⟨b3, off3, e3, hb3, x0, x1, x2, x3, x4⟩ := H9.out.at_ t (by omega)
                    obtain ⟨b4, off4, e4, hb4, y0, y1, y2, y3, y4⟩ := H9.out.at_ p (by omega)
                    cases e3
                    cases e4
                    have heq := eq_bs (uA L t).dst (uA L p).dst
                    rw [decide_eq_false (dst_ne HGL.out htp (by rw [HM.out]; omega))] at heq
                    clear x0 x2 x3 x4 y0 y2 y3 y4
                    generalize (uA L t).dst = d1 at *
                    generalize (uA L p).dst = d2 at *
                    have hsz := B4.out.size
                    go_wp2_with fail
                    go_quiet (fail)
                    have hd4 : Below wr.heap.size wr (wr.drewN nq) := gb_below_none ((show Drew wr (wr.drewN nq) from ⟨nq, rfl⟩).gb none)
                    have R6 := Lib.hid (R4.out.keep hd4)
                    have B6 := Lib.hid (B4.out.trans (hd4.mono hsz))
                    generalize wr.drewN nq = W9 at *
                    clear hd4 x1 y1 heq
                    go_wp2
                    go_roundw
                    case rel => exact ⟨t + 1, by omega, by go_num, R6, B6⟩
                    case measure => simp [intOf]; omega
                  · have htz : ¬ (t : Int) < (p : Int) := by omega
                    obtain rfl : t = p := by omega
                    go_wp2
                    go_roundw
                    case rel => exact ⟨t + 1, by omega, by go_num, R4, B4⟩
                    case measure => simp [intOf]; omega
              · rw [decide_eq_false hsrc] at heq HPREV
                have HNEW := Lib.hid (made_new HGL.out.ord (i := t0 + 1) (by rw [HM.out]; exact hpm) HPREV.out)
                clear hsrc HPREV x1 x2 x3 x4 y1 y2 y3 y4
                generalize hpn : t0 + 1 = p at *
                clear hpn
                generalize hd1 : (uA L t0).src = d1 at *
                clear hd1
                have HNEW2 := HNEW
                obtain ⟨d2, hd2⟩ : ∃ d2, (uA L p).src = d2 := ⟨_, rfl⟩
                have HD2 := Lib.hid hd2
                rw [hd2] at heq x0
                clear hd2
                go_wp2_with fail
                go_quiet (fail)
                clear x0 y0 heq hw1 HNEW2 HD2
                have hd4 : Below wr.heap.size wr (wr.drewN nq) := gb_below_none ((show Drew wr (wr.drewN nq) from ⟨nq, rfl⟩).gb none)
                replace X8 := Lib.hid (X8.out.keep hd4)
                replace R8 := Lib.hid (R8.out.keep hd4)
                replace H8 := Lib.hid (H8.out.keep hd4)
                replace B8 := Lib.hid (B8.out.trans (hd4.mono B8.out.size))
                generalize wr.drewN nq = V2 at *
                clear hd4
                obtain ⟨b3, off3, e3, hb3, x0, x1, x2, x3, x4⟩ := H8.out.at_ p hpm
                cases e3
                have C := oof (uA L p).src X8.out (Nat.le_trans HLL.out (by decide))
                have HC := Lib.hid C
                clear C
                have hofl : (ofL L (uA L p).src).length ≤ 40 := Nat.le_trans (ofL_le _ _) HLL.out
                have hmadel : (madeG L p).length ≤ 40 := Nat.le_trans (made_le _ _) HLL.out
                clear x1 x2 x3 x4
                generalize (uA L p).src = sp at *
                go_wp2_with fail
                refine HC.out.mono ?_
                rintro e V3 ⟨v66, rfl, r66, br⟩
                obtain ⟨a66, c66, e66, h66, _⟩ := r66.shape
                subst e66
                have H66 := Lib.hid h66
                have R7 := Lib.hid (R8.out.keep br)
                have B7 := Lib.hid (B8.out.trans (br.mono B8.out.size))
                clear r66 h66 br HC x0
                generalize hol : (ofL L sp).length = ol at *
                go_wp2_with (first
                  | (at_builtin
                     refine wpList_append_gu rfl _ _ rfl V1.heap.size u6 (madeG L p) rfl R7.out a66 ol c66 (ofL L sp) rfl H66.out (by omega) B7.out.size ?_
                     intro v2 w2 R2 g2
                     have R3 : Hid (URow 31 w2 V1.heap.size v2 (madeG L (p + 1))) := Lib.hid (by rw [HNEW.out]; exact R2)
                     have B3 := Lib.hid (URow.bel B7.out B7.out.size R7.out (Nat.le_refl _) g2)
                     clear R2 g2 R7 H66))
                go_wp2
                go_loopw [8] (fun k wr3 => ∃ t : Nat, t ≤ p ∧ k = .int .i64 (t : Int) ∧ Hid (URow 31 wr3 V1.heap.size v2 (madeG L (p + 1))) ∧ Hid (Below V1.heap.size V1 wr3)) (fun k _ => p - (intOf k).toNat)
                case atStart => exact ⟨0, Nat.zero_le _, rfl, R3, B3⟩
                case round =>
                  obtain ⟨t, ht, rfl, R4, B4⟩ := hrel
                  have H9 := Lib.hid (H5.out.keep B4.out)
                  by_cases htp : t < p
                  · have htz : (t : Int) < (p : Int) := by omega
                    have htm : (t : Int) < (m : Int) := by omega
                    have hpm : (p : Int) < (m : Int) := by omega
                    have ht0 : (0 : Int) ≤ (t : Int) := by omega
                    have hp0 : (0 : Int) ≤ (p : Int) := by omega
                    obtain ⟨b3, off3, e3, hb3, x0, x1, x2, x3, x4⟩ := H9.out.at_ t (by omega)
                    obtain ⟨b4, off4, e4, hb4, y0, y1, y2, y3, y4⟩ := H9.out.at_ p (by omega)
                    cases e3
                    cases e4
                    have heq := eq_bs (uA L t).dst (uA L p).dst
                    rw [decide_eq_false (dst_ne HGL.out htp (by rw [HM.out]; omega))] at heq
                    clear x0 x2 x3 x4 y0 y2 y3 y4
                    generalize (uA L t).dst = d1 at *
                    generalize (uA L p).dst = d2 at *
                    have hsz := B4.out.size
                    go_wp2_with fail
                    go_quiet (fail)
                    have hd4 : Below wr.heap.size wr (wr.drewN nq) := gb_below_none ((show Drew wr (wr.drewN nq) from ⟨nq, rfl⟩).gb none)
                    have R6 := Lib.hid (R4.out.keep hd4)
                    have B6 := Lib.hid (B4.out.trans (hd4.mono hsz))
                    generalize wr.drewN nq = W9 at *
                    clear hd4 x1 y1 heq
                    go_wp2
                    go_roundw
                    case rel => exact ⟨t + 1, by omega, by go_num, R6, B6⟩
                    case measure => simp [intOf]; omega
                  · have htz : ¬ (t : Int) < (p : Int) := by omega
                    obtain rfl : t = p := by omega
                    go_wp2
                    go_roundw
                    case rel => exact ⟨t + 1, by omega, by go_num, R4, B4⟩
                    case measure => simp [intOf]; omega
          · have hpz : ¬ (p : Int) < (m : Int) := by omega
            obtain rfl : p = m := by omega
            have hmm : madeG L p = L := by rw [← HM.out]; exact made_all L
            rw [hmm] at R8
            clear hmm
            go_wp2_with fail
            refine (plainO R8.out HLL2.out).mono ?_
            rintro e V2 ⟨v85, rfl, r85, br⟩
            have R85 := Lib.hid r85
            replace X8 := Lib.hid (X8.out.keep br)
            replace H8 := Lib.hid (H8.out.keep br)
            clear r85 br R8
            go_wp2_with fail
            refine (plain11_any a5 p c5 L V2 H8.out (by omega)).mono ?_
            rintro e V3 ⟨v87, rfl, r87, br⟩
            have R87 := Lib.hid r87
            replace X8 := Lib.hid (X8.out.keep br)
            replace R85 := Lib.hid (R85.out.keep br)
            clear r87 br H8
            go_wp2_with fail
            have C := sameO R85.out R87.out
            rw [show decide (L = L) = true from decide_eq_true rfl] at C
            refine C.mono ?_
            clear C
            rintro e V4 ⟨rfl, br⟩
            replace X8 := Lib.hid (X8.out.keep br)
            clear br R85 R87
            go_wp2_with fail
            refine (known11_any _).mono ?_
            rintro e V5 ⟨rfl, br⟩
            replace X8 := Lib.hid (X8.out.keep br)
            go_wp2
            go_ret
            exact ⟨rfl, X8.out.bel⟩
    · have hjz : ¬ (j : Int) < (n : Int) := by omega
      have hL : L.length ≤ 40 := by omega
      have HGL := Lib.hid X.out.gr.good
      go_wp2_with fail
      refine (oall X.out (by omega)).mono ?_
      rintro e V1 ⟨v5, rfl, rr, br⟩
      replace X := Lib.hid (X.out.keep br)
      obtain ⟨a5, c5, e5, hr5, _⟩ := rr.shape
      subst e5
      have H5 := Lib.hid hr5
      clear rr br hr5
      obtain ⟨m, hm⟩ : ∃ m, L.length = m := ⟨_, rfl⟩
      have HM := Lib.hid hm
      have HLL := Lib.hid hL
      have HLL2 := Lib.hid (show L.length ≤ 1000 from by omega)
      rw [hm] at H5 hL ⊢
      clear hm
      go_wp2
      go_loopw [6, 7] (fun o i wr => ∃ p : Nat, p ≤ m ∧ i = .int .i64 (p : Int) ∧ Hid (URow 31 wr V1.heap.size o (madeG L p)) ∧ Hid (Below V1.heap.size V1 wr)) (fun _ i _ => m - (intOf i).toNat)
      case atStart => exact ⟨0, Nat.zero_le _, rfl, Lib.hid (by rw [made_0]; exact URow.nil _ _ _), Lib.hid (Below.refl _ _)⟩
      case round =>
        obtain ⟨p, hp, rfl, R8, B8⟩ := hrel
        have X8 := Lib.hid (X.out.keep B8.out)
        have H8 := Lib.hid (H5.out.keep B8.out)
        by_cases hpm : p < m
        · have hpz : (p : Int) < (m : Int) := by omega
          have hp0 : (0 : Int) ≤ (p : Int) := by omega
          by_cases hpp : p = 0
          · have hp0z : ((p : Int) == 0) = true := by simp [hpp]
            have HNEW := Lib.hid (made_new HGL.out.ord (i := p) (by rw [HM.out]; exact hpm) (by rw [hpp]; exact seen_first L _))
            have hp00 : (p : Int) = 0 := by omega
            clear hpp
            go_wp2_with fail
            go_quiet (fail)
            clear hp0z hp00
            have hd4 : Below wr.heap.size wr (wr.drewN nq) := gb_below_none ((show Drew wr (wr.drewN nq) from ⟨nq, rfl⟩).gb none)
            replace X8 := Lib.hid (X8.out.keep hd4)
            replace R8 := Lib.hid (R8.out.keep hd4)
            replace H8 := Lib.hid (H8.out.keep hd4)
            replace B8 := Lib.hid (B8.out.trans (hd4.mono B8.out.size))
            generalize wr.drewN nq = V2 at *
            clear hd4
            obtain ⟨b3, off3, e3, hb3, x0, x1, x2, x3, x4⟩ := H8.out.at_ p hpm
            cases e3
            have C := oof (uA L p).src X8.out (Nat.le_trans HLL.out (by decide))
            have HC := Lib.hid C
            clear C
            have hofl : (ofL L (uA L p).src).length ≤ 40 := Nat.le_trans (ofL_le _ _) HLL.out
            have hmadel : (madeG L p).length ≤ 40 := Nat.le_trans (made_le _ _) HLL.out
            clear x1 x2 x3 x4
            generalize (uA L p).src = sp at *
            go_wp2_with fail
            refine HC.out.mono ?_
            rintro e V3 ⟨v66, rfl, r66, br⟩
            obtain ⟨a66, c66, e66, h66, _⟩ := r66.shape
            subst e66
            have H66 := Lib.hid h66
            have R7 := Lib.hid (R8.out.keep br)
            have B7 := Lib.hid (B8.out.trans (br.mono B8.out.size))
            clear r66 h66 br HC x0
            generalize hol : (ofL L sp).length = ol at *
            go_wp2_with (first
              | (at_builtin
                 refine wpList_append_gu rfl _ _ rfl V1.heap.size u6 (madeG L p) rfl R7.out a66 ol c66 (ofL L sp) rfl H66.out (by omega) B7.out.size ?_
                 intro v2 w2 R2 g2
                 have R3 : Hid (URow 31 w2 V1.heap.size v2 (madeG L (p + 1))) := Lib.hid (by rw [HNEW.out]; exact R2)
                 have B3 := Lib.hid (URow.bel B7.out B7.out.size R7.out (Nat.le_refl _) g2)
                 clear R2 g2 R7 H66))
            go_wp2
            go_loopw [8] (fun k wr3 => ∃ t : Nat, t ≤ p ∧ k = .int .i64 (t : Int) ∧ Hid (URow 31 wr3 V1.heap.size v2 (madeG L (p + 1))) ∧ Hid (Below V1.heap.size V1 wr3)) (fun k _ => p - (intOf k).toNat)
            case atStart => exact ⟨0, Nat.zero_le _, rfl, R3, B3⟩
            case round =>
              obtain ⟨t, ht, rfl, R4, B4⟩ := hrel
              have H9 := Lib.hid (H5.out.keep B4.out)
              by_cases htp : t < p
              · have htz : (t : Int) < (p : Int) := by omega
                have htm : (t : Int) < (m : Int) := by omega
                have hpm : (p : Int) < (m : Int) := by omega
                have ht0 : (0 : Int) ≤ (t : Int) := by omega
                have hp0 : (0 : Int) ≤ (p : Int) := by omega
                obtain ⟨b3, off3, e3, hb3, x0, x1, x2, x3, x4⟩ := H9.out.at_ t (by omega)
                obtain ⟨b4, off4, e4, hb4, y0, y1, y2, y3, y4⟩ := H9.out.at_ p (by omega)
                cases e3
                cases e4
                have heq := eq_bs (uA L t).dst (uA L p).dst
                rw [decide_eq_false (dst_ne HGL.out htp (by rw [HM.out]; omega))] at heq
                clear x0 x2 x3 x4 y0 y2 y3 y4
                generalize (uA L t).dst = d1 at *
                generalize (uA L p).dst = d2 at *
                have hsz := B4.out.size
                go_wp2_with fail
                go_quiet (fail)
                have hd4 : Below wr.heap.size wr (wr.drewN nq) := gb_below_none ((show Drew wr (wr.drewN nq) from ⟨nq, rfl⟩).gb none)
                have R6 := Lib.hid (R4.out.keep hd4)
                have B6 := Lib.hid (B4.out.trans (hd4.mono hsz))
                generalize wr.drewN nq = W9 at *
                clear hd4 x1 y1 heq
                go_wp2
                go_roundw
                case rel => exact ⟨t + 1, by omega, by go_num, R6, B6⟩
                case measure => simp [intOf]; omega
              · have htz : ¬ (t : Int) < (p : Int) := by omega
                obtain rfl : t = p := by omega
                go_wp2
                go_roundw
                case rel => exact ⟨t + 1, by omega, by go_num, R4, B4⟩
                case measure => simp [intOf]; omega
          · obtain ⟨t0, rfl⟩ : ∃ t0, p = t0 + 1 := ⟨p - 1, by omega⟩
            have hp0z : ¬ ((t0 + 1 : Nat) : Int) = 0 := by omega
            obtain ⟨b3, off3, e3, hb3, x0, x1, x2, x3, x4⟩ := H8.out.at_ (t0 + 1) hpm
            obtain ⟨b4, off4, e4, hb4, y0, y1, y2, y3, y4⟩ := H8.out.at_ t0 (by omega)
            cases e3
            cases e4
            have heq := eq_bs (uA L t0).src (uA L (t0 + 1)).src
            have HPREV := Lib.hid (seen_prev HGL.out.ord (i := t0 + 1) (by omega) (by rw [HM.out]; exact hpm))
            rw [show t0 + 1 - 1 = t0 from rfl] at HPREV
            have hw1 : IntKind.i64.wrap (((t0 + 1 : Nat) : Int) - 1) = (t0 : Int) := by
              rw [show ((t0 + 1 : Nat) : Int) - 1 = (t0 : Int) from by omega]
              exact IntWalk.i64_in _ (by omega)
            have ht0m : (t0 : Int) < (m : Int) := by omega
            have ht00 : (0 : Int) ≤ (t0 : Int) := by omega
            by_cases hsrc : (uA L t0).src = (uA L (t0 + 1)).src
            · rw [decide_eq_true hsrc] at heq HPREV
              have HSM := Lib.hid (made_same (i := t0 + 1) (by rw [HM.out]; exact hpm) HPREV.out)
              clear hsrc HPREV x1 x2 x3 x4 y1 y2 y3 y4
              generalize hpn : t0 + 1 = p at *
              clear hpn
              generalize (uA L t0).src = d1 at *
              generalize (uA L p).src = d2 at *
              go_wp2_with fail
              go_quiet (fail)
              clear x0 y0 heq hw1
              have hd4 : Below wr.heap.size wr (wr.drewN nq) := gb_below_none ((show Drew wr (wr.drewN nq) from ⟨nq, rfl⟩).gb none)
              replace X8 := Lib.hid (X8.out.keep hd4)
              replace R8 := Lib.hid (R8.out.keep hd4)
              replace H8 := Lib.hid (H8.out.keep hd4)
              replace B8 := Lib.hid (B8.out.trans (hd4.mono B8.out.size))
              generalize wr.drewN nq = V2 at *
              clear hd4
              have R3 : Hid (URow 31 V2 V1.heap.size u6 (madeG L (p + 1))) := Lib.hid (by rw [HSM.out]; exact R8.out)
              have B3 := B8
              clear R8 B8
              go_wp2
              go_loopw [8] (fun k wr3 => ∃ t : Nat, t ≤ p ∧ k = .int .i64 (t : Int) ∧ Hid (URow 31 wr3 V1.heap.size u6 (madeG L (p + 1))) ∧ Hid (Below V1.heap.size V1 wr3)) (fun k _ => p - (intOf k).toNat)
              case atStart => exact ⟨0, Nat.zero_le _, rfl, R3, B3⟩
              case round =>
                obtain ⟨t, ht, rfl, R4, B4⟩ := hrel
                have H9 := Lib.hid (H5.out.keep B4.out)
                by_cases htp : t < p
                · have htz : (t : Int) < (p : Int) := by omega
                  have htm : (t : Int) < (m : Int) := by omega
                  have hpm : (p : Int) < (m : Int) := by omega
                  have ht0 : (0 : Int) ≤ (t : Int) := by omega
                  have hp0 : (0 : Int) ≤ (p : Int) := by omega
                  obtain ⟨b3, off3, e3, hb3, x0, x1, x2, x3, x4⟩ := H9.out.at_ t (by omega)
                  obtain ⟨b4, off4, e4, hb4, y0, y1, y2, y3, y4⟩ := H9.out.at_ p (by omega)
                  cases e3
                  cases e4
                  have heq := eq_bs (uA L t).dst (uA L p).dst
                  rw [decide_eq_false (dst_ne HGL.out htp (by rw [HM.out]; omega))] at heq
                  clear x0 x2 x3 x4 y0 y2 y3 y4
                  generalize (uA L t).dst = d1 at *
                  generalize (uA L p).dst = d2 at *
                  have hsz := B4.out.size
                  go_wp2_with fail
                  go_quiet (fail)
                  have hd4 : Below wr.heap.size wr (wr.drewN nq) := gb_below_none ((show Drew wr (wr.drewN nq) from ⟨nq, rfl⟩).gb none)
                  have R6 := Lib.hid (R4.out.keep hd4)
                  have B6 := Lib.hid (B4.out.trans (hd4.mono hsz))
                  generalize wr.drewN nq = W9 at *
                  clear hd4 x1 y1 heq
                  go_wp2
                  go_roundw
                  case rel => exact ⟨t + 1, by omega, by go_num, R6, B6⟩
                  case measure => simp [intOf]; omega
                · have htz : ¬ (t : Int) < (p : Int) := by omega
                  obtain rfl : t = p := by omega
                  go_wp2
                  go_roundw
                  case rel => exact ⟨t + 1, by omega, by go_num, R4, B4⟩
                  case measure => simp [intOf]; omega
            · rw [decide_eq_false hsrc] at heq HPREV
              have HNEW := Lib.hid (made_new HGL.out.ord (i := t0 + 1) (by rw [HM.out]; exact hpm) HPREV.out)
              clear hsrc HPREV x1 x2 x3 x4 y1 y2 y3 y4
              generalize hpn : t0 + 1 = p at *
              clear hpn
              generalize hd1 : (uA L t0).src = d1 at *
              clear hd1
              have HNEW2 := HNEW
              obtain ⟨d2, hd2⟩ : ∃ d2, (uA L p).src = d2 := ⟨_, rfl⟩
              have HD2 := Lib.hid hd2
              rw [hd2] at heq x0
              clear hd2
              go_wp2_with fail
              go_quiet (fail)
              clear x0 y0 heq hw1 HNEW2 HD2
              have hd4 : Below wr.heap.size wr (wr.drewN nq) := gb_below_none ((show Drew wr (wr.drewN nq) from ⟨nq, rfl⟩).gb none)
              replace X8 := Lib.hid (X8.out.keep hd4)
              replace R8 := Lib.hid (R8.out.keep hd4)
              replace H8 := Lib.hid (H8.out.keep hd4)
              replace B8 := Lib.hid (B8.out.trans (hd4.mono B8.out.size))
              generalize wr.drewN nq = V2 at *
              clear hd4
              obtain ⟨b3, off3, e3, hb3, x0, x1, x2, x3, x4⟩ := H8.out.at_ p hpm
              cases e3
              have C := oof (uA L p).src X8.out (Nat.le_trans HLL.out (by decide))
              have HC := Lib.hid C
              clear C
              have hofl : (ofL L (uA L p).src).length ≤ 40 := Nat.le_trans (ofL_le _ _) HLL.out
              have hmadel : (madeG L p).length ≤ 40 := Nat.le_trans (made_le _ _) HLL.out
              clear x1 x2 x3 x4
              generalize (uA L p).src = sp at *
              go_wp2_with fail
              refine HC.out.mono ?_
              rintro e V3 ⟨v66, rfl, r66, br⟩
              obtain ⟨a66, c66, e66, h66, _⟩ := r66.shape
              subst e66
              have H66 := Lib.hid h66
              have R7 := Lib.hid (R8.out.keep br)
              have B7 := Lib.hid (B8.out.trans (br.mono B8.out.size))
              clear r66 h66 br HC x0
              generalize hol : (ofL L sp).length = ol at *
              go_wp2_with (first
                | (at_builtin
                   refine wpList_append_gu rfl _ _ rfl V1.heap.size u6 (madeG L p) rfl R7.out a66 ol c66 (ofL L sp) rfl H66.out (by omega) B7.out.size ?_
                   intro v2 w2 R2 g2
                   have R3 : Hid (URow 31 w2 V1.heap.size v2 (madeG L (p + 1))) := Lib.hid (by rw [HNEW.out]; exact R2)
                   have B3 := Lib.hid (URow.bel B7.out B7.out.size R7.out (Nat.le_refl _) g2)
                   clear R2 g2 R7 H66))
              go_wp2
              go_loopw [8] (fun k wr3 => ∃ t : Nat, t ≤ p ∧ k = .int .i64 (t : Int) ∧ Hid (URow 31 wr3 V1.heap.size v2 (madeG L (p + 1))) ∧ Hid (Below V1.heap.size V1 wr3)) (fun k _ => p - (intOf k).toNat)
              case atStart => exact ⟨0, Nat.zero_le _, rfl, R3, B3⟩
              case round =>
                obtain ⟨t, ht, rfl, R4, B4⟩ := hrel
                have H9 := Lib.hid (H5.out.keep B4.out)
                by_cases htp : t < p
                · have htz : (t : Int) < (p : Int) := by omega
                  have htm : (t : Int) < (m : Int) := by omega
                  have hpm : (p : Int) < (m : Int) := by omega
                  have ht0 : (0 : Int) ≤ (t : Int) := by omega
                  have hp0 : (0 : Int) ≤ (p : Int) := by omega
                  obtain ⟨b3, off3, e3, hb3, x0, x1, x2, x3, x4⟩ := H9.out.at_ t (by omega)
                  obtain ⟨b4, off4, e4, hb4, y0, y1, y2, y3, y4⟩ := H9.out.at_ p (by omega)
                  cases e3
                  cases e4
                  have heq := eq_bs (uA L t).dst (uA L p).dst
                  rw [decide_eq_false (dst_ne HGL.out htp (by rw [HM.out]; omega))] at heq
                  clear x0 x2 x3 x4 y0 y2 y3 y4
                  generalize (uA L t).dst = d1 at *
                  generalize (uA L p).dst = d2 at *
                  have hsz := B4.out.size
                  go_wp2_with fail
                  go_quiet (fail)
                  have hd4 : Below wr.heap.size wr (wr.drewN nq) := gb_below_none ((show Drew wr (wr.drewN nq) from ⟨nq, rfl⟩).gb none)
                  have R6 := Lib.hid (R4.out.keep hd4)
                  have B6 := Lib.hid (B4.out.trans (hd4.mono hsz))
                  generalize wr.drewN nq = W9 at *
                  clear hd4 x1 y1 heq
                  go_wp2
                  go_roundw
                  case rel => exact ⟨t + 1, by omega, by go_num, R6, B6⟩
                  case measure => simp [intOf]; omega
                · have htz : ¬ (t : Int) < (p : Int) := by omega
                  obtain rfl : t = p := by omega
                  go_wp2
                  go_roundw
                  case rel => exact ⟨t + 1, by omega, by go_num, R4, B4⟩
                  case measure => simp [intOf]; omega
        · have hpz : ¬ (p : Int) < (m : Int) := by omega
          obtain rfl : p = m := by omega
          have hmm : madeG L p = L := by rw [← HM.out]; exact made_all L
          rw [hmm] at R8
          clear hmm
          go_wp2_with fail
          refine (plainO R8.out HLL2.out).mono ?_
          rintro e V2 ⟨v85, rfl, r85, br⟩
          have R85 := Lib.hid r85
          replace X8 := Lib.hid (X8.out.keep br)
          replace H8 := Lib.hid (H8.out.keep br)
          clear r85 br R8
          go_wp2_with fail
          refine (plain11_any a5 p c5 L V2 H8.out (by omega)).mono ?_
          rintro e V3 ⟨v87, rfl, r87, br⟩
          have R87 := Lib.hid r87
          replace X8 := Lib.hid (X8.out.keep br)
          replace R85 := Lib.hid (R85.out.keep br)
          clear r87 br H8
          go_wp2_with fail
          have C := sameO R85.out R87.out
          rw [show decide (L = L) = true from decide_eq_true rfl] at C
          refine C.mono ?_
          clear C
          rintro e V4 ⟨rfl, br⟩
          replace X8 := Lib.hid (X8.out.keep br)
          clear br R85 R87
          go_wp2_with fail
          refine (known11_any _).mono ?_
          rintro e V5 ⟨rfl, br⟩
          replace X8 := Lib.hid (X8.out.keep br)
          go_wp2
          go_ret
          exact ⟨rfl, X8.out.bel⟩


set_option maxRecDepth 100000 in
theorem lifted (os : Os) (started : os.Started) (H : Type) (enc : TypeId × Value → H) :
    ReturnsInHanded {} Try.checked os 7 .any (Rows.graphOfSpec.pre6 enc Try.prog Try.f7 Rows.graphOfRow.domain false) (Rows.graphOfSpec.post enc Try.prog Try.f7 false true false false) := by
  refine returnsInHanded_of_change (C := Try.checked) own started (by kernel_rfl) Try.func7
    (ChangeSpec.witness6 (enc := enc) (C := Try.checked) false ⟨#[], #[.slice none 0 0], []⟩ 8 (by kernel_rfl) (by kernel_rfl) (by kernel_rfl) (by kernel_rfl)) ?_
  intro W base args ds gs before hval0 hW hcnd _
  have hval : ∀ (j : Nat) t v, Try.f7.params[j]? = some t → args[j]? = some v → Value.okWide Try.prog W .any base t v := hval0
  have hW' := hW
  obtain ⟨p, q, hA0, hV, rfl, hfz, hnd⟩ := hW
  have hA : DataW.TrodAll enc Try.prog W 0 (fun _ => true) true Try.f7.params.toList args.toList ds p := hA0
  rw [Try.params7] at hA hval
  obtain ⟨v0, vs0, d0, ds0, p0, q0, hargs, rfl, rfl, h0, r0⟩ := trodAll_cons hA
  obtain ⟨rfl, rfl, rfl⟩ := trodAll_nil r0
  obtain rfl : args = #[v0] := by cases args; simp_all
  obtain ⟨rfl, rfl⟩ := trodVars_none hV
  obtain ⟨a0, len0, cap0, rfl⟩ := okWide_slice Try.underlying22 (hval 0 22 v0 rfl rfl)
  have k0 := h0
  have lt0 : ∀ x ∈ p0, x.block < W.heap.size := by obtain ⟨m, hm⟩ := k0; exact DataW.trod_lt m _ _ _ hm
  obtain ⟨z0, w0⟩ := open_ops11 h0
  clear hA0 hval0
  refine (walk a0 len0 cap0 z0 W w0).mono fun e W' ⟨he, bel⟩ => ?_
  subst he
  exact ⟨_, rfl, _, _, _, [], _, [], hW', trodAll_mk1 (shut_bool Try.underlying4 _), (trodAll_cons_mk (Below.trod laidOut (by kernel_rfl) (of_decide_eq_true (by kernel_rfl)) k0 bel lt0) trodAll_mk0), rfl, bel.frame _, fun h => by cases h⟩

theorem over : Rows.graphOfRow.holds Try.pinned (OpenSpec.ofChange Rows.graphOfSpec) :=
  OpenClaim.holds_of_wide 7 Try.f7 rfl rfl rfl rfl rfl rfl rfl ⟨rfl, rfl, rfl, rfl, rfl⟩ rfl rfl rfl rfl rfl (by kernel_rfl) Try.func7 (by kernel_rfl)
    (of_decide_eq_true (by kernel_rfl)) (by unfold Func.isWrapper; first | (rw [if_pos (by decide +kernel)]; kernel_rfl) | (rw [if_neg (by decide +kernel)]; exact ⟨rfl, rfl⟩))
    (fun os started H enc _ => lifted os started H enc)

theorem proved : Rows.GraphOfSaid := over
end graphOf
theorem graphOf_holds : Rows.GraphOfSaid := graphOf.proved
#print axioms graphOf_holds
end Go.Proofs.Ytlogkhifgkkjeaa
