/-
  Contracts.
-/
import Derived.Test.YtmifpfojhlmbkaaGreatJ0
import Derived.Test.YtmifpfojhlmbkaaGreatJ19
import Derived.RangeFuncNested
import Derived.RangeFuncBound
import Derived.RangeFuncLeaves
import Derived.Shelf.Abstract
import Derived.WalkKit
import Derived.OwnWalkIn
import Derived.TacticsInMore
import Derived.LoopNIn
import Derived.LoopIn
import Derived.Lib.Hide
namespace Go.Proofs.YtmifpfojhlmbkaaGreat
open Lib (hid)
set_option maxRecDepth 100000
set_option maxHeartbeats 16000000
open Go.RowKit
set_option linter.unusedVariables false
set_option linter.unusedSimpArgs false
theorem add_ser (b : Nat) (sz : Int) (s : Ser) (T V p : Int) (w : World) (h : SerAt w b sz s) (hS : Std s) (hs : 128 ≤ sz) (hs2 : sz ≤ 4096) (hn : s.z.length ≤ 90000) (hV : in64 V) :
    Calls Tryz.prog 130 #[.pointer (some ⟨b, 0, none⟩), .agg #[.int .i64 T, .int .i64 V], .int .i64 p] w (PutP b sz (addE s T V p) (addS5 s T V p) w) := by
  have HS := hid h
  obtain ⟨v, hc⟩ := h.cell
  have HC := hid hc
  have hblt := hc.lt
  have HST := hid hS
  obtain ⟨q, hq⟩ : ∃ q, polS s p = q := ⟨_, rfl⟩
  have HQ := hid hq
  have B0 := (Below.refl w.heap.size w).alloc (Nat.le_refl _) (.cells #[.int .i64 T, .int .i64 V] 27)
  have hn0 := heap_new w (.cells #[.int .i64 T, .int .i64 V] 27)
  have s0 : w.heap.size < (w.alloc (.cells #[.int .i64 T, .int .i64 V] 27)).heap.size := by simp
  have hc0 := heap_old (o := .cells #[.int .i64 T, .int .i64 V] 27) hc
  have HS0 := hid (HS.out.keepN (World.grownBy_alloc w (.cells #[.int .i64 T, .int .i64 V] 27) none))
  have hq2 : (p = 0 ∧ q = s.pol) ∨ (p ≠ 0 ∧ q = p) := by
    unfold polS at hq
    split at hq
    · rename_i h; exact .inl ⟨h, hq.symm⟩
    · rename_i h; exact .inr ⟨h, hq.symm⟩
  clear h hc hS hq
  generalize hW0 : w.alloc (.cells #[.int .i64 T, .int .i64 V] 27) = W0 at *
  have t0 : W0.cell? ⟨w.heap.size, 0, none⟩ = some (.int .i64 T) := by rw [cell_of hn0]; rfl
  have t1 : W0.cell? ⟨w.heap.size, 1, none⟩ = some (.int .i64 V) := by rw [cell_of hn0]; rfl
  have c4 : W0.cell? ⟨b, 4, none⟩ = some (.int .i64 s.line) := by rw [cell_of hc0]; rfl
  have c3 : W0.cell? ⟨b, 3, none⟩ = some (.int .i64 s.mx) := by rw [cell_of hc0]; rfl
  have HW0 := hid hW0
  have HC0 := hid hc0
  clear hW0 hc0
  rcases hq2 with ⟨hp0, hqp⟩ | ⟨hp0, hqp⟩
  · subst hp0
    have c2 : W0.cell? ⟨b, 2, none⟩ = some (.int .i64 q) := by rw [hqp, cell_of HC0.out]; rfl
    clear hqp
    go_enter Tryz.func130, Tryz.ntmps130
    go_wp2_with fail
    rw [HW0.out]
    refine (sNone_no b sz _ _ _ _ v W0 HC0.out (by omega)).mono ?_
    rintro e w' ⟨rfl, rfl⟩
    by_cases hT : T < 0
    · have HE := hid (show addE s T V 0 = 1 from by unfold addE; rw [if_pos (.inl hT)])
      have HA := hid (show addS5 s T V 0 = s from by unfold addS5; rw [HE.out, if_neg (by omega)])
      go_wp2
      go_ret
      exact ⟨by rw [HE.out]; rfl, by rw [HA.out]; exact HS0.out, gb_below B0⟩
    · by_cases hT2 : T ≥ 1099511627776
      · have HE := hid (show addE s T V 0 = 1 from by unfold addE; rw [if_pos (.inr (.inl hT2))])
        have HA := hid (show addS5 s T V 0 = s from by unfold addS5; rw [HE.out, if_neg (by omega)])
        go_wp2
        go_ret
        exact ⟨by rw [HE.out]; rfl, by rw [HA.out]; exact HS0.out, gb_below B0⟩
      · by_cases hqr : 1 ≤ q ∧ q ≤ 6
        · have HQR := hid (decide_eq_true hqr)
          have HNB := hid (show ¬ badS s T 0 from by unfold badS; rw [HQ.out]; omega)
          go_wp2_with fail
          refine (sright_is q true W0 HQR.out).mono ?_
          rintro e w' ⟨rfl, rfl⟩
          by_cases hold : T < s.line
          · have HE := hid (show addE s T V 0 = 7 from by unfold addE; rw [if_neg HNB.out, if_pos hold])
            have HA := hid (show addS5 s T V 0 = s from by unfold addS5; rw [HE.out, if_neg (by omega)])
            go_wp2_with fail
            go_quiet (fail)
            have BD : Below w.heap.size w (W0.drewN nq) := B0.trans ((drew_below ⟨nq, rfl⟩).mono B0.size)
            have HSD : Hid (SerAt (W0.drewN nq) b sz s) := hid (HS0.out.keepN (Drew.gb ⟨nq, rfl⟩ none))
            generalize W0.drewN nq = W1 at *
            go_wp2
            go_ret
            exact ⟨by rw [HE.out]; rfl, by rw [HA.out]; exact HSD.out, gb_below BD⟩
          · have HE := hid (show addE s T V 0 = (newV s.z T V q).2 from by unfold addE; rw [if_neg HNB.out, if_neg hold, HQ.out])
            have HA1 := hid (show (newV s.z T V q).2 ≠ 0 → addS5 s T V 0 = s from fun hh => by unfold addS5; rw [HE.out, if_neg hh])
            have HA0 := hid (show (newV s.z T V q).2 = 0 → addS5 s T V 0 = trimS ⟨s.ret, s.pol, max s.mx T, s.line, insL s.z T (newV s.z T V q).1⟩ from fun hh => by unfold addS5; rw [HE.out, if_pos hh, HQ.out])
            have HI1 := hid (show (newV s.z T V q).2 ≠ 0 → insS s T V q = s from fun hh => by unfold insS; rw [if_neg hh])
            have HI0 := hid (show (newV s.z T V q).2 = 0 → insS s T V q = ⟨s.ret, s.pol, s.mx, s.line, insL s.z T (newV s.z T V q).1⟩ from fun hh => by unfold insS; rw [if_pos hh])
            go_wp2_with fail
            go_quiet (fail)
            have BD : Below w.heap.size w (W0.drewN nq) := B0.trans ((drew_below ⟨nq, rfl⟩).mono B0.size)
            have HSD : Hid (SerAt (W0.drewN nq) b sz s) := hid (HS0.out.keepN (Drew.gb ⟨nq, rfl⟩ none))
            have d0 : (W0.drewN nq).cell? ⟨w.heap.size, 0, none⟩ = some (.int .i64 T) := ((drew_below (w := W0) ⟨nq, rfl⟩).cell s0).trans t0
            have d1 : (W0.drewN nq).cell? ⟨w.heap.size, 1, none⟩ = some (.int .i64 V) := ((drew_below (w := W0) ⟨nq, rfl⟩).cell s0).trans t1
            have sD : w.heap.size < (W0.drewN nq).heap.size := Nat.lt_of_lt_of_le s0 (drew_below (w := W0) ⟨nq, rfl⟩).size
            generalize W0.drewN nq = W1 at *
            clear t0 t1 c3 c4
            go_wp2_with fail
            refine (put_any b sz s T V q W1 HSD.out hs hs2 HST.out.rise (by omega) (by omega) (by omega) hV hqr).mono ?_
            rintro e W2 ⟨rfl, S2, g2⟩
            have G2 := hid (gb_trans (gb_below (row := some b) BD) g2)
            have d2 : W2.cell? ⟨w.heap.size, 0, none⟩ = some (.int .i64 T) := g2.cell d0 (by simp; omega)
            have HS2 := hid S2
            clear S2 g2
            obtain ⟨er, her⟩ : ∃ er, (newV s.z T V q).2 = er := ⟨_, rfl⟩
            obtain ⟨vv, hvv⟩ : ∃ vv, (newV s.z T V q).1 = vv := ⟨_, rfl⟩
            rw [her] at HE HA1 HA0 HI1 HI0 ⊢
            rw [hvv] at HA0 HI0
            clear her hvv
            by_cases he0 : er = 0
            · subst he0
              rw [HI0.out rfl] at HS2
              have HA2 := hid (HA0.out rfl)
              clear HA0 HI0
              obtain ⟨u2, hu2⟩ := HS2.out.cell
              have c3 : W2.cell? ⟨b, 3, none⟩ = some (.int .i64 s.mx) := by rw [cell_of hu2]; rfl
              have f3 := frozen_of (o := 3) hu2
              clear hu2
              have hd : (T ≤ s.mx ∧ max s.mx T = s.mx) ∨ (¬ (T ≤ s.mx) ∧ max s.mx T = T) := by omega
              rcases hd with ⟨hd, hl⟩ | ⟨hd, hl⟩
              all_goals
                have HL := hid hl
                clear hl
                go_wp2_with fail
                go_region
              all_goals
                have HL' := HL.out
                rw [← HL']
                have S3 : Hid (SerAt (W2.setCell ⟨b, 3, none⟩ (.int .i64 (max s.mx T))).drew b sz ⟨s.ret, s.pol, max s.mx T, s.line, insL s.z T vv⟩) := hid (HS2.out.setMax (max s.mx T))
                have G3 : Hid (w.grownBy (W2.setCell ⟨b, 3, none⟩ (.int .i64 (max s.mx T))).drew (some b)) := hid (gb_drew (gb_set G2.out _ _))
                clear HL' HL d2 c3 f3
                generalize (W2.setCell ⟨b, 3, none⟩ (.int .i64 (max s.mx T))).drew = W3 at *
                have hst := HST.out
                have hm0 := hst.m0
                have hm1 := hst.m1
                have hl1 := hst.l1
                have hln : (insL s.z T vv).length ≤ 100000 := by rw [insL_length _ _ _ hst.rise]; omega
                go_wp2_with fail
                refine (trim_any b sz ⟨s.ret, s.pol, max s.mx T, s.line, insL s.z T vv⟩ W3 S3.out hs hs2 (insL_rising hst.rise _ _) hln hst.r0 hst.r1 (by show -1 ≤ max s.mx T; omega) (by show max s.mx T < _; omega) hst.l0 (by show s.line < _; omega)).mono ?_
                rintro e W4 ⟨⟨u, rfl⟩, S4, g4⟩
                have HS4 := hid S4
                have HG4 := hid (gb_trans G3.out g4)
                clear S4 g4 hst
                go_wp2
                go_ret
                exact ⟨by rw [HE.out]; rfl, by rw [HA2.out]; exact HS4.out, HG4.out⟩
            · have heb : (er != 0) = true := by simpa using he0
              have heb2 : (er == 0) = false := by simpa using he0
              have HH := hid he0
              clear he0
              rw [HI1.out HH.out] at HS2
              go_wp2
              go_ret
              exact ⟨by rw [HE.out]; rfl, by rw [HA1.out HH.out]; exact HS2.out, G2.out⟩
        · have HE := hid (show addE s T V 0 = 1 from by unfold addE; rw [if_pos (.inr (.inr (by rw [HQ.out]; exact hqr)))])
          have HA := hid (show addS5 s T V 0 = s from by unfold addS5; rw [HE.out, if_neg (by omega)])
          have HQR := hid (decide_eq_false hqr)
          clear hqr
          go_wp2_with fail
          refine (sright_is q false W0 HQR.out).mono ?_
          rintro e w' ⟨rfl, rfl⟩
          go_wp2
          go_ret
          exact ⟨by rw [HE.out]; rfl, by rw [HA.out]; exact HS0.out, gb_below B0⟩
  · subst hqp
    have hpb : (q == 0) = false := by rw [beq_eq_false_iff_ne]; exact hp0
    clear hp0
    go_enter Tryz.func130, Tryz.ntmps130
    go_wp2_with fail
    rw [HW0.out]
    refine (sNone_no b sz _ _ _ _ v W0 HC0.out (by omega)).mono ?_
    rintro e w' ⟨rfl, rfl⟩
    by_cases hT : T < 0
    · have HE := hid (show addE s T V q = 1 from by unfold addE; rw [if_pos (.inl hT)])
      have HA := hid (show addS5 s T V q = s from by unfold addS5; rw [HE.out, if_neg (by omega)])
      go_wp2
      go_ret
      exact ⟨by rw [HE.out]; rfl, by rw [HA.out]; exact HS0.out, gb_below B0⟩
    · by_cases hT2 : T ≥ 1099511627776
      · have HE := hid (show addE s T V q = 1 from by unfold addE; rw [if_pos (.inr (.inl hT2))])
        have HA := hid (show addS5 s T V q = s from by unfold addS5; rw [HE.out, if_neg (by omega)])
        go_wp2
        go_ret
        exact ⟨by rw [HE.out]; rfl, by rw [HA.out]; exact HS0.out, gb_below B0⟩
      · by_cases hqr : 1 ≤ q ∧ q ≤ 6
        · have HQR := hid (decide_eq_true hqr)
          have HNB := hid (show ¬ badS s T q from by unfold badS; rw [HQ.out]; omega)
          go_wp2_with fail
          refine (sright_is q true W0 HQR.out).mono ?_
          rintro e w' ⟨rfl, rfl⟩
          by_cases hold : T < s.line
          · have HE := hid (show addE s T V q = 7 from by unfold addE; rw [if_neg HNB.out, if_pos hold])
            have HA := hid (show addS5 s T V q = s from by unfold addS5; rw [HE.out, if_neg (by omega)])
            go_wp2_with fail
            go_quiet (fail)
            have BD : Below w.heap.size w (W0.drewN nq) := B0.trans ((drew_below ⟨nq, rfl⟩).mono B0.size)
            have HSD : Hid (SerAt (W0.drewN nq) b sz s) := hid (HS0.out.keepN (Drew.gb ⟨nq, rfl⟩ none))
            generalize W0.drewN nq = W1 at *
            go_wp2
            go_ret
            exact ⟨by rw [HE.out]; rfl, by rw [HA.out]; exact HSD.out, gb_below BD⟩
          · have HE := hid (show addE s T V q = (newV s.z T V q).2 from by unfold addE; rw [if_neg HNB.out, if_neg hold, HQ.out])
            have HA1 := hid (show (newV s.z T V q).2 ≠ 0 → addS5 s T V q = s from fun hh => by unfold addS5; rw [HE.out, if_neg hh])
            have HA0 := hid (show (newV s.z T V q).2 = 0 → addS5 s T V q = trimS ⟨s.ret, s.pol, max s.mx T, s.line, insL s.z T (newV s.z T V q).1⟩ from fun hh => by unfold addS5; rw [HE.out, if_pos hh, HQ.out])
            have HI1 := hid (show (newV s.z T V q).2 ≠ 0 → insS s T V q = s from fun hh => by unfold insS; rw [if_neg hh])
            have HI0 := hid (show (newV s.z T V q).2 = 0 → insS s T V q = ⟨s.ret, s.pol, s.mx, s.line, insL s.z T (newV s.z T V q).1⟩ from fun hh => by unfold insS; rw [if_pos hh])
            go_wp2_with fail
            go_quiet (fail)
            have BD : Below w.heap.size w (W0.drewN nq) := B0.trans ((drew_below ⟨nq, rfl⟩).mono B0.size)
            have HSD : Hid (SerAt (W0.drewN nq) b sz s) := hid (HS0.out.keepN (Drew.gb ⟨nq, rfl⟩ none))
            have d0 : (W0.drewN nq).cell? ⟨w.heap.size, 0, none⟩ = some (.int .i64 T) := ((drew_below (w := W0) ⟨nq, rfl⟩).cell s0).trans t0
            have d1 : (W0.drewN nq).cell? ⟨w.heap.size, 1, none⟩ = some (.int .i64 V) := ((drew_below (w := W0) ⟨nq, rfl⟩).cell s0).trans t1
            have sD : w.heap.size < (W0.drewN nq).heap.size := Nat.lt_of_lt_of_le s0 (drew_below (w := W0) ⟨nq, rfl⟩).size
            generalize W0.drewN nq = W1 at *
            clear t0 t1 c3 c4
            go_wp2_with fail
            refine (put_any b sz s T V q W1 HSD.out hs hs2 HST.out.rise (by omega) (by omega) (by omega) hV hqr).mono ?_
            rintro e W2 ⟨rfl, S2, g2⟩
            have G2 := hid (gb_trans (gb_below (row := some b) BD) g2)
            have d2 : W2.cell? ⟨w.heap.size, 0, none⟩ = some (.int .i64 T) := g2.cell d0 (by simp; omega)
            have HS2 := hid S2
            clear S2 g2
            obtain ⟨er, her⟩ : ∃ er, (newV s.z T V q).2 = er := ⟨_, rfl⟩
            obtain ⟨vv, hvv⟩ : ∃ vv, (newV s.z T V q).1 = vv := ⟨_, rfl⟩
            rw [her] at HE HA1 HA0 HI1 HI0 ⊢
            rw [hvv] at HA0 HI0
            clear her hvv
            by_cases he0 : er = 0
            · subst he0
              rw [HI0.out rfl] at HS2
              have HA2 := hid (HA0.out rfl)
              clear HA0 HI0
              obtain ⟨u2, hu2⟩ := HS2.out.cell
              have c3 : W2.cell? ⟨b, 3, none⟩ = some (.int .i64 s.mx) := by rw [cell_of hu2]; rfl
              have f3 := frozen_of (o := 3) hu2
              clear hu2
              have hd : (T ≤ s.mx ∧ max s.mx T = s.mx) ∨ (¬ (T ≤ s.mx) ∧ max s.mx T = T) := by omega
              rcases hd with ⟨hd, hl⟩ | ⟨hd, hl⟩
              all_goals
                have HL := hid hl
                clear hl
                go_wp2_with fail
                go_region
              all_goals
                have HL' := HL.out
                rw [← HL']
                have S3 : Hid (SerAt (W2.setCell ⟨b, 3, none⟩ (.int .i64 (max s.mx T))).drew b sz ⟨s.ret, s.pol, max s.mx T, s.line, insL s.z T vv⟩) := hid (HS2.out.setMax (max s.mx T))
                have G3 : Hid (w.grownBy (W2.setCell ⟨b, 3, none⟩ (.int .i64 (max s.mx T))).drew (some b)) := hid (gb_drew (gb_set G2.out _ _))
                clear HL' HL d2 c3 f3
                generalize (W2.setCell ⟨b, 3, none⟩ (.int .i64 (max s.mx T))).drew = W3 at *
                have hst := HST.out
                have hm0 := hst.m0
                have hm1 := hst.m1
                have hl1 := hst.l1
                have hln : (insL s.z T vv).length ≤ 100000 := by rw [insL_length _ _ _ hst.rise]; omega
                go_wp2_with fail
                refine (trim_any b sz ⟨s.ret, s.pol, max s.mx T, s.line, insL s.z T vv⟩ W3 S3.out hs hs2 (insL_rising hst.rise _ _) hln hst.r0 hst.r1 (by show -1 ≤ max s.mx T; omega) (by show max s.mx T < _; omega) hst.l0 (by show s.line < _; omega)).mono ?_
                rintro e W4 ⟨⟨u, rfl⟩, S4, g4⟩
                have HS4 := hid S4
                have HG4 := hid (gb_trans G3.out g4)
                clear S4 g4 hst
                go_wp2
                go_ret
                exact ⟨by rw [HE.out]; rfl, by rw [HA2.out]; exact HS4.out, HG4.out⟩
            · have heb : (er != 0) = true := by simpa using he0
              have heb2 : (er == 0) = false := by simpa using he0
              have HH := hid he0
              clear he0
              rw [HI1.out HH.out] at HS2
              go_wp2
              go_ret
              exact ⟨by rw [HE.out]; rfl, by rw [HA1.out HH.out]; exact HS2.out, G2.out⟩
        · have HE := hid (show addE s T V q = 1 from by unfold addE; rw [if_pos (.inr (.inr (by rw [HQ.out]; exact hqr)))])
          have HA := hid (show addS5 s T V q = s from by unfold addS5; rw [HE.out, if_neg (by omega)])
          have HQR := hid (decide_eq_false hqr)
          clear hqr
          go_wp2_with fail
          refine (sright_is q false W0 HQR.out).mono ?_
          rintro e w' ⟨rfl, rfl⟩
          go_wp2
          go_ret
          exact ⟨by rw [HE.out]; rfl, by rw [HA.out]; exact HS0.out, gb_below B0⟩
open Go.RowKit Go.Shelf
structure KeepM (M : World → Nat → Prop) (W W' : World) : Prop where
  os : W'.os = W.os
  tape : W'.tape = W.tape
  output : W'.output = W.output
  size : W.heap.size ≤ W'.heap.size
  block : ∀ k, k < W.heap.size → ¬ M W k → W'.heap[k]? = W.heap[k]? ∧ ¬ M W' k
theorem KeepM.below {M : World → Nat → Prop} {n₀ : Nat} {X Y : World} (h : KeepM M X Y) (hn : n₀ ≤ X.heap.size) (hM : ∀ k, k < n₀ → ¬ M X k) : Below n₀ X Y ∧ ∀ k, k < n₀ → ¬ M Y k :=
  ⟨⟨h.os, h.tape, h.output, h.size, fun k hk => (h.block k (by omega) (hM k hk)).1⟩, fun k hk => (h.block k (by omega) (hM k hk)).2⟩
structure MineOk {α : Type} (B : Nat) (J : List α → World → Prop) (M : World → Nat → Prop) : Prop where
  new : ∀ pre X Y row k, J pre X → X.grownBy Y row → (∀ r, row = some r → B ≤ r ∧ ∃ o : Obj, X.heap[r]? = some o ∧ o.isCells = false) → M Y k → M X k
  own : ∀ pre X k, J pre X → M X k → ∃ o : Obj, X.heap[k]? = some o ∧ o.isCells = true
theorem MineOk.keep {α : Type} {B : Nat} {J : List α → World → Prop} {M : World → Nat → Prop} (h : MineOk B J M) {pre : List α} {X Y : World} (hJ : J pre X) (g : X.grownBy Y none) : KeepM M X Y :=
  ⟨g.os, g.tape, g.output, g.size, fun k hk hm => ⟨g.block k hk (by simp), fun e => hm (h.new pre X Y none k hJ g (fun r e => by cases e) e)⟩⟩
def SeqAll {α : Type} (g : Nat) (lb : Array Value) (encs : α → Array Value) (xs : List α) (R : Nat → Prop) (w : World) : Prop :=
  ∀ (l : Nat) (J : List α → World → Prop) (M : World → Nat → Prop) (W : World), Below w.heap.size w W → OwnFrom W.heap.size J → MineOk W.heap.size J M → (∀ k, R k → ¬ M W k) →
    (∀ m pre x rest W1, xs = pre ++ x :: rest → J pre W1 → YieldAt Fence.wide m Tryz.prog l (encs x) W1 fun e W' => e = .returned (.bool true) ∧ J (pre ++ [x]) W' ∧ KeepM M W1 W') →
    J [] W → Calls Tryz.prog g (#[.func (.yield l) #[] #[]] ++ lb) W fun e W' => (∃ v, e = .returned v) ∧ J xs W'
def allPost {α : Type} (M : World → Nat → Prop) (I : List α → World → Prop) (xs : List α) (W : World) : Exit → Act → World → Prop
  | .normal, _, W' => KeepM M W W' ∧ I xs W'
  | _, _, _ => False
theorem round_all {α : Type} {m l B : Nat} {r : Loop} {W : World} {args : Array Value} {pre xs : List α} (hl : W.heap[l]? = some (.loop r)) (hr : r.state = .ready) (hp : r.pending = none) (hsz : args.size = r.params.size) (hB : B ≤ l)
    (I : List α → World → Prop) (M : World → Nat → Prop) (hI : OwnFrom B I) (hM : MineOk B I M) (hi : I pre W) (Ax : Act → World → Prop) (hAx : ∀ a', OwnFrom B (fun (_ : Unit) W => Ax a' W))
    (hassign : ∀ K : Act → World → Prop, (∀ a' W', W.grownBy W' none → I pre W' → Ax a' W' → K a' W') →
      r.assign.wpIn (Fence.wide.inRound l) m Tryz.prog (Exit.then K (fun _ _ _ => False)) { tmps := (r.params.zip args).foldl (fun t (p, v) => t.setIfInBounds p v) r.tmps, defers := [] } W)
    (hbody : ∀ a' W', (∃ r', W'.heap[l]? = some (.loop r')) → I pre W' → Ax a' W' → r.body.wpIn (Fence.wide.inRound l) m Tryz.prog (allPost M I xs W') a' W') :
    YieldAt Fence.wide m Tryz.prog l args W fun e W' => e = .returned (.bool true) ∧ I xs W' ∧ KeepM M W W' := by
  refine ⟨r.fn, _, r.assign, r.body, run_yield hl hsz, roundIn_of_wpIn trivial (hassign _ ?_)⟩
  intro a' Wa ga ia xa
  have ka := hM.keep hi ga
  have la : Wa.heap[l]? = some (.loop r) := (ga.block l (heap_lt hl) (by simp)).trans hl
  have lta := (Array.getElem?_eq_some_iff.1 la).1
  refine ⟨_, run_beginRound la hr, ?_⟩
  have gb := grownBy_putObj' Wa l (.loop { r with state := .busy })
  have lb : (Wa.putObj l (.loop { r with state := .busy })).heap[l]? = some (.loop { r with state := .busy }) := World.putObj_heap_same lta
  have ib : I pre (Wa.putObj l (.loop { r with state := .busy })) := hI.putObj _ ia hB la rfl
  refine wpIn_mono (hbody a' _ ⟨_, lb⟩ ib ((hAx a').putObj (s := ()) _ xa hB la rfl)) ?_
  intro e a3 Wc hc
  cases e with
  | normal =>
    obtain ⟨kc, ic⟩ := hc
    have nb : ∀ k, ¬ M Wa k → ¬ M (Wa.putObj l (.loop { r with state := .busy })) k := fun k h e => h (hM.new pre Wa _ (some l) k ia gb (fun q hq => by cases hq; exact ⟨hB, _, la, rfl⟩) e)
    have ml : ¬ M Wa l := fun e => by
      obtain ⟨o, ho, hcells⟩ := hM.own pre Wa l ia e
      rw [la] at ho; cases ho; cases hcells
    have szb : (Wa.putObj l (.loop { r with state := .busy })).heap.size = Wa.heap.size := Nat.le_antisymm (by simp [World.putObj]) gb.size
    obtain ⟨lc, mc⟩ := kc.block l (by rw [szb]; exact lta) (nb l ml)
    rw [lb] at lc
    have ltc := (Array.getElem?_eq_some_iff.1 lc).1
    have gd := grownBy_putObj' Wc l (.loop r)
    have hend := run_endRound (P := Tryz.prog) none lc
    have e0 : ({ { r with state := LoopState.busy } with state := if (none : Option Code).isNone then LoopState.ready else LoopState.done, pending := none } : Loop) = r := by
      cases r; simp at hr hp; subst hr hp; rfl
    rw [e0] at hend
    have nd : ∀ k, ¬ M Wc k → ¬ M (Wc.putObj l (.loop r)) k := fun k h e => h (hM.new xs Wc _ (some l) k ic gd (fun q hq => by cases hq; exact ⟨hB, _, lc, rfl⟩) e)
    refine ⟨_, _, hend, rfl, hI.putObj _ ic hB lc rfl, ?_⟩
    refine ⟨gd.os.trans (kc.os.trans (gb.os.trans ka.os)), gd.tape.trans (kc.tape.trans (gb.tape.trans ka.tape)), gd.output.trans (kc.output.trans (gb.output.trans ka.output)), Nat.le_trans ka.size (Nat.le_trans gb.size (Nat.le_trans kc.size gd.size)), fun k hk hm => ?_⟩
    obtain ⟨a1, a2⟩ := ka.block k hk hm
    obtain ⟨c1, c2⟩ := kc.block k (by rw [szb]; exact Nat.lt_of_lt_of_le hk ka.size) (nb k a2)
    refine ⟨?_, nd k c2⟩
    by_cases hkl : k = l
    · subst hkl
      rw [World.putObj_heap_same ltc]; exact hl.symm
    · rw [World.putObj_heap_other hkl, c1, World.putObj_heap_other hkl]; exact a1
  | ret => exact hc.elim
  | exit id => exact hc.elim
  | goto t => exact hc.elim
  | panic ch => exact hc.elim
  | outgrown => exact hc.elim
theorem range_out {α : Type} {g : Operand} {ps : Array Tmp} {assign body : Code} {Q : Exit → Act → World → Prop} {a : Act} {w : World} {n : Nat}
    {gf : Nat} {lb : Array Value} (hg : a.eval g = .func (.func gf) #[] lb) (eg : ∀ args w, (callFunc gf args).run Tryz.prog w = .ok (.enter gf args) w)
    {encs : α → Array Value} {xs : List α} {R : Nat → Prop} {w0 : World} (hseq : SeqAll gf lb encs xs R w0) (hb0 : Below w0.heap.size w0 w) (hps : ∀ x, (encs x).size = ps.size)
    (I : List α → World → Prop) (M : World → Nat → Prop) (hI : OwnFrom w.heap.size I) (hM : MineOk w.heap.size I M) (hR : ∀ k, R k → ¬ M w k) (h0 : I [] w) (Ax : α → Act → World → Prop) (hAx : ∀ x a', OwnFrom w.heap.size (fun (_ : Unit) W => Ax x a' W))
    (hassign : ∀ (m l : Nat) (pre : List α) (x : α) (rest : List α) (W : World) (K : Act → World → Prop), xs = pre ++ x :: rest → I pre W → (∀ a' W', W.grownBy W' none → I pre W' → Ax x a' W' → K a' W') →
      assign.wpIn (Fence.wide.inRound l) m Tryz.prog (Exit.then K (fun _ _ _ => False)) { tmps := (ps.zip (encs x)).foldl (fun t (p, v) => t.setIfInBounds p v) a.tmps, defers := [] } W)
    (hbody : ∀ (m l : Nat) (pre : List α) (x : α) (rest : List α) (a' : Act) (W : World), xs = pre ++ x :: rest → w.heap.size ≤ l → (∃ r, W.heap[l]? = some (.loop r)) → I pre W → Ax x a' W →
      body.wpIn (Fence.wide.inRound l) m Tryz.prog (allPost M I (pre ++ [x]) W) a' W)
    (hdone : ∀ (D : Nat) (W : World), w.heap.size ≤ D → I xs W → W.heap[D]? = some (.deferred (some [])) → Q .normal { a with defers := { target := .collected D, args := #[] } :: a.defers } W) :
    (Code.rangeFunc g ps assign body).wpIn Fence.wide n Tryz.prog Q a w := by
  refine wpIn_rangeFunc fun fn _ => ?_
  obtain ⟨r, hr⟩ : ∃ r : Loop, r = { state := .ready, pending := none, fn, tmps := a.tmps, params := ps, assign, body, defers := w.heap.size } := ⟨_, rfl⟩
  obtain ⟨W1, hW1⟩ : ∃ W1, W1 = (w.alloc (.deferred (some []))).alloc (.loop r) := ⟨_, rfl⟩
  have B1 : Below w.heap.size w W1 := by rw [hW1]; exact ((Below.refl _ w).alloc (Nat.le_refl _) _).alloc (by simp) _
  have s1 : W1.heap.size = w.heap.size + 2 := by rw [hW1]; simp
  have l1 : W1.heap[w.heap.size + 1]? = some (.loop r) := by
    rw [hW1]
    have := World.alloc_heap_new (w.alloc (.deferred (some []))) (.loop r)
    rwa [World.size_alloc] at this
  have d1 : W1.heap[w.heap.size]? = some (.deferred (some [])) := by rw [hW1]; exact heap_old (heap_new w _)
  have i1 : I [] W1 := by rw [hW1]; exact hI.alloc _ (hI.alloc _ h0)
  refine ⟨w.heap.size + 1, [{ target := .collected w.heap.size, args := #[] }], W1, { target := .fn (.func gf) lb, args := #[.func (.yield (w.heap.size + 1)) #[] #[]] }, W1, gf, #[.func (.yield (w.heap.size + 1)) #[] #[]] ++ lb, W1, ?_, ?_, fun _ _ => trivial, ?_, fun h => by simp [Fence.wide] at h, ?_⟩
  · rw [hW1, hr]; exact run_enterLoop_outer _ _ _ _ _
  · simp only [resolve, hg]; simp [go_sem]
  · simp [invoke, go_sem, eg]
  · have nocells : ∀ pre X (o : Obj) k, I pre X → X.heap[k]? = some o → o.isCells = false → ¬ M X k := fun pre X o k hi hk ho e => by
      obtain ⟨o', ho', hc'⟩ := hM.own pre X k hi e
      rw [hk] at ho'; cases ho'; rw [ho] at hc'; cases hc'
    refine callsIn_wide.2 ((hseq (w.heap.size + 1) (fun pre W => I pre W ∧ W.heap[w.heap.size + 1]? = some (.loop r) ∧ W.heap[w.heap.size]? = some (.deferred (some []))) M W1 (hb0.trans (B1.mono hb0.size)) ?_ ?_ (fun k hk e => hR k hk (hM.new [] w W1 none k h0 (gb_below B1) (fun r e => by cases e) e)) ?_ ⟨i1, l1, d1⟩).mono ?_)
    · rintro pre X Y row ⟨hi, hl, hd⟩ hgr hrow
      refine ⟨hI pre X Y row hi hgr (fun q e => ⟨by have := (hrow q e).1; omega, (hrow q e).2⟩), ?_, ?_⟩
      · rw [hgr.block _ (heap_lt hl) (fun e => by have := (hrow _ e.symm).1; omega)]; exact hl
      · rw [hgr.block _ (heap_lt hd) (fun e => by have := (hrow _ e.symm).1; omega)]; exact hd
    · exact ⟨fun pre X Y row k hx hgr hrow hk => hM.new pre X Y row k hx.1 hgr (fun q e => ⟨by have := (hrow q e).1; omega, (hrow q e).2⟩) hk, fun pre X k hx hk => hM.own pre X k hx.1 hk⟩
    · rintro m pre x rest W hx ⟨hi, hl, hd⟩
      have hy := round_all (m := m) (B := w.heap.size) (xs := pre ++ [x]) (args := encs x) hl (by rw [hr]) (by rw [hr]) (by rw [hr]; exact hps x) (by omega) I M hI hM hi (Ax x) (hAx x)
        (fun K hK => by rw [hr]; exact hassign m _ pre x rest W K hx hi hK)
        (fun a' W' hl' hi' hx' => by rw [hr]; exact hbody m _ pre x rest a' W' hx (by omega) hl' hi' hx')
      obtain ⟨f', t', as', bo', e1, e2⟩ := hy
      refine ⟨f', t', as', bo', e1, e2.mono fun e W' ⟨h1, h2, h3⟩ => ⟨h1, ⟨h2, ?_, ?_⟩, h3⟩⟩
      · exact (h3.block _ (heap_lt hl) (nocells pre W _ _ hi hl rfl)).1.trans hl
      · exact (h3.block _ (heap_lt hd) (nocells pre W _ _ hi hd rfl)).1.trans hd
    · rintro e W2 ⟨⟨v, rfl⟩, hi, hl, hd⟩
      have hend := run_endLoop (P := Tryz.prog) hl (by rw [hr]; simp)
      rw [hr] at hend
      refine ⟨none, _, hend, hdone _ _ (Nat.le_refl _) (hI.putObj _ hi (by omega) hl rfl) ?_⟩
      exact (World.putObj_heap_other (by omega)).trans hd
end Go.Proofs.YtmifpfojhlmbkaaGreat
