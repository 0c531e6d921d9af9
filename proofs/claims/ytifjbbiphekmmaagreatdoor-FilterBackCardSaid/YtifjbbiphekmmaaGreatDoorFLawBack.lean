/-
  The statement 'FilterBack' of layer 10: a right term's text is read as it; a text that is read is its term's text, but for a list of one.
  No condition on the arguments; the tables of unicode/utf8 are as the program's text lays them (the card ties that).
-/
import Derived.Test.YtifjbbiphekmmaaGreatDoorFKnown
import Derived.Test.YtifjbbiphekmmaaGreatDoorFArgs
import Derived.Test.YtifjbbiphekmmaaGreatDoorFLaid
import Derived.Test.YtifjbbiphekmmaaGreatDoorTie
import Derived.Test.YtifjbbiphekmmaaGreatDoorCards
import Derived.Test.YtifjbbiphekmmaaGreatDoorFShow
import Derived.Test.YtifjbbiphekmmaaGreatDoorFSame
import Derived.Test.YtifjbbiphekmmaaGreatDoorFLight
import Derived.Test.YtifjbbiphekmmaaGreatDoorFMeet
import Derived.ShutString
import Derived.ChangeOld
import Derived.SevenTiedAt
namespace Go.Proofs.YtifjbbiphekmmaaGreatDoor
namespace filterBack
open Go.ChangeShapes Go.WideShapes Go.ChangeAt Go.RowKit
open Go.ChangeMaps (open_string shut_string)
set_option linter.unusedVariables false
set_option linter.unusedSimpArgs false

theorem own : ownKnob Tryz.prog.godebug = none := by kernel_rfl

theorem show_short (t : Trm) : (showT t).length ≤ 100000 := by
  unfold showT
  by_cases h : rightT t
  · rw [if_pos h]
    have h1 := join_right h
    have h2 := (word_len h.2.1).2
    unfold textT signT listT
    simp only [List.length_append]
    by_cases hb : t.2.1 = true <;> by_cases h3 : 1 < t.2.2.length <;> simp [hb, h3] <;> omega
  · rw [if_neg h]; simp
theorem par_eq {s : Tx} {t : Trm} {tm : TmT} {er : Int} (h : parseT s = some t) (ps : ParS s tm er) : tm.trm = t ∧ er = 0 := by
  rcases ps with ⟨h1, h2⟩ | ⟨h1, _⟩
  · rw [h] at h1; exact ⟨(Option.some.inj h1).symm, h2⟩
  · rw [h] at h1; cases h1
theorem show_zero : showT ([], false, []) = [] := by decide

set_option maxRecDepth 100000 in
set_option maxHeartbeats 16000000 in
theorem walk (t : TmT) (s0 : ByteArray) (w : World) (h : TmOk w t) (hs : s0.size ≤ maxLen) :
    Calls Tryz.prog 6 #[tmV t, .string s0] w fun e w' => e = .returned (.bool true) ∧ Below w.heap.size w w' := by
  obtain ⟨nm, ng, aa, n, c, l⟩ := t
  obtain ⟨s, rfl⟩ : ∃ s, s0 = bs s := ⟨tx s0, (bs_tx s0).symm⟩
  have B := Lib.hid (Below.refl w.heap.size w)
  have TT := Lib.hid h
  clear h
  unfold tmV
  simp only
  by_cases hn : s.length ≤ 300
  · have hz1 : ¬ (300 : Int) < ((bs s).size : Int) := by rw [bs_size]; omega
    have hz2 : ¬ 300 < (bs s).size := by rw [bs_size]; omega
    go_enter Tryz.func6, Tryz.ntmps6
    go_wp2_with fail
    have Tb : Hid (BoxT 24 (w.alloc (.cells #[.string (bs nm), .bool ng, .slice aa n c] 24)) w.heap.size ⟨nm, ng, aa, n, c, l⟩) := Lib.hid (heap_new w _)
    have br := (Below.refl w.heap.size w).alloc (Nat.le_refl _) (.cells #[.string (bs nm), .bool ng, .slice aa n c] 24)
    replace B := Lib.hid (B.out.trans (br.mono B.out.size))
    replace TT := Lib.hid (TT.out.keep br)
    clear br
    generalize w.alloc (.cells #[.string (bs nm), .bool ng, .slice aa n c] 24) = W1 at *
    generalize w.heap.size = b_b at Tb ⊢
    have C := light10_any ⟨nm, ng, aa, n, c, l⟩ W1 TT.out
    by_cases hA : lightT ⟨nm, ng, aa, n, c, l⟩
    · rw [decide_eq_true hA] at C
      clear hA
      refine C.mono ?_
      clear C
      rintro e W2 ⟨rfl, br⟩
      replace B := Lib.hid (B.out.trans (br.mono B.out.size))
      replace TT := Lib.hid (TT.out.keep br)
      replace Tb := Lib.hid (Tb.out.keep br)
      clear br
      have y0_b := Tb.out.x0
      have y1_b := Tb.out.x1
      have y2_b := Tb.out.x2
      simp only at y0_b y1_b y2_b
      go_wp2_with fail
      clear y0_b y1_b y2_b
      have C := show10_any ⟨nm, ng, aa, n, c, l⟩ W2 TT.out
      refine C.mono ?_
      clear C
      rintro e W3 ⟨rfl, br⟩
      replace B := Lib.hid (B.out.trans (br.mono B.out.size))
      replace TT := Lib.hid (TT.out.keep br)
      replace Tb := Lib.hid (Tb.out.keep br)
      clear br
      go_wp2_with fail
      refine (parse10_any (showT (TmT.trm ⟨nm, ng, aa, n, c, l⟩)) W3 (show_short _)).mono ?_
      rintro e W4 ⟨tm, er, rfl, tmo, br, _, ps⟩
      have Tu := Lib.hid tmo
      have PS_u := Lib.hid ps
      clear tmo ps
      replace B := Lib.hid (B.out.trans (br.mono B.out.size))
      replace TT := Lib.hid (TT.out.keep br)
      replace Tb := Lib.hid (Tb.out.keep br)
      clear br
      by_cases hr : rightT (nm, ng, l)
      · obtain ⟨nm_u, ng_u, a_u, n_u, c_u, l_u⟩ := tm
        obtain ⟨hu, rfl⟩ := par_eq ((parse_show (nm, ng, l)).trans (if_pos hr)) PS_u.out
        unfold TmT.trm at hu
        simp only [Prod.mk.injEq] at hu
        obtain ⟨rfl, rfl, rfl⟩ := hu
        clear PS_u
        have HR := Lib.hid hr
        clear hr
        unfold tmV
        simp only
        go_wp2_with fail
        have Tbu : Hid (BoxT 24 (W4.alloc (.cells #[.string (bs nm_u), .bool ng_u, .slice a_u n_u c_u] 24)) W4.heap.size ⟨nm_u, ng_u, a_u, n_u, c_u, l_u⟩) := Lib.hid (heap_new W4 _)
        have br := (Below.refl W4.heap.size W4).alloc (Nat.le_refl _) (.cells #[.string (bs nm_u), .bool ng_u, .slice a_u n_u c_u] 24)
        replace B := Lib.hid (B.out.trans (br.mono B.out.size))
        replace TT := Lib.hid (TT.out.keep br)
        replace Tb := Lib.hid (Tb.out.keep br)
        replace Tu := Lib.hid (Tu.out.keep br)
        clear br
        generalize W4.alloc (.cells #[.string (bs nm_u), .bool ng_u, .slice a_u n_u c_u] 24) = W5 at *
        generalize W4.heap.size = b_bu at Tbu ⊢
        refine (parse10_any s W5 (by omega)).mono ?_
        rintro e W6 ⟨tm, er, rfl, tmo, br, _, ps⟩
        have Tv := Lib.hid tmo
        have PS_v := Lib.hid ps
        clear tmo ps
        replace B := Lib.hid (B.out.trans (br.mono B.out.size))
        replace TT := Lib.hid (TT.out.keep br)
        replace Tb := Lib.hid (Tb.out.keep br)
        replace Tu := Lib.hid (Tu.out.keep br)
        replace Tbu := Lib.hid (Tbu.out.keep br)
        clear br
        obtain hp | ⟨hp, hz, he⟩ := PS_v.out
        · obtain ⟨nm_v, ng_v, a_v, n_v, c_v, l_v⟩ := tm
          obtain ⟨hp, rfl⟩ := hp
          replace hp : parseT s = some (nm_v, ng_v, l_v) := hp
          clear PS_v
          have HP := Lib.hid hp
          clear hp
          unfold tmV
          simp only
          go_wp2_with fail
          have Tbv : Hid (BoxT 24 (W6.alloc (.cells #[.string (bs nm_v), .bool ng_v, .slice a_v n_v c_v] 24)) W6.heap.size ⟨nm_v, ng_v, a_v, n_v, c_v, l_v⟩) := Lib.hid (heap_new W6 _)
          have br := (Below.refl W6.heap.size W6).alloc (Nat.le_refl _) (.cells #[.string (bs nm_v), .bool ng_v, .slice a_v n_v c_v] 24)
          replace B := Lib.hid (B.out.trans (br.mono B.out.size))
          replace TT := Lib.hid (TT.out.keep br)
          replace Tb := Lib.hid (Tb.out.keep br)
          replace Tu := Lib.hid (Tu.out.keep br)
          replace Tbu := Lib.hid (Tbu.out.keep br)
          replace Tv := Lib.hid (Tv.out.keep br)
          clear br
          generalize W6.alloc (.cells #[.string (bs nm_v), .bool ng_v, .slice a_v n_v c_v] 24) = W7 at *
          generalize W6.heap.size = b_bv at Tbv ⊢
          have y0_bv := Tbv.out.x0
          have y1_bv := Tbv.out.x1
          have y2_bv := Tbv.out.x2
          simp only at y0_bv y1_bv y2_bv
          go_wp2_with fail
          clear y0_bv y1_bv y2_bv
          have C := show10_any ⟨nm_v, ng_v, a_v, n_v, c_v, l_v⟩ W7 Tv.out
          refine C.mono ?_
          clear C
          rintro e W8 ⟨rfl, br⟩
          replace B := Lib.hid (B.out.trans (br.mono B.out.size))
          replace TT := Lib.hid (TT.out.keep br)
          replace Tb := Lib.hid (Tb.out.keep br)
          replace Tu := Lib.hid (Tu.out.keep br)
          replace Tbu := Lib.hid (Tbu.out.keep br)
          replace Tv := Lib.hid (Tv.out.keep br)
          replace Tbv := Lib.hid (Tbv.out.keep br)
          clear br
          go_wp2_with fail
          refine (parse10_any (showT (TmT.trm ⟨nm_v, ng_v, a_v, n_v, c_v, l_v⟩)) W8 (show_short _)).mono ?_
          rintro e W9 ⟨tm, er, rfl, tmo, br, _, ps⟩
          have Tx := Lib.hid tmo
          have PS_x := Lib.hid ps
          clear tmo ps
          replace B := Lib.hid (B.out.trans (br.mono B.out.size))
          replace TT := Lib.hid (TT.out.keep br)
          replace Tb := Lib.hid (Tb.out.keep br)
          replace Tu := Lib.hid (Tu.out.keep br)
          replace Tbu := Lib.hid (Tbu.out.keep br)
          replace Tv := Lib.hid (Tv.out.keep br)
          replace Tbv := Lib.hid (Tbv.out.keep br)
          clear br
          obtain ⟨nm_x, ng_x, a_x, n_x, c_x, l_x⟩ := tm
          obtain ⟨hu, rfl⟩ := par_eq ((parse_show (nm_v, ng_v, l_v)).trans (if_pos (parse_right HP.out))) PS_x.out
          unfold TmT.trm at hu
          simp only [Prod.mk.injEq] at hu
          obtain ⟨rfl, rfl, rfl⟩ := hu
          clear PS_x
          unfold tmV
          simp only
          have Tbx : Hid (BoxT 24 (W9.alloc (.cells #[.string (bs nm_x), .bool ng_x, .slice a_x n_x c_x] 24)) W9.heap.size ⟨nm_x, ng_x, a_x, n_x, c_x, l_x⟩) := Lib.hid (heap_new W9 _)
          have br := (Below.refl W9.heap.size W9).alloc (Nat.le_refl _) (.cells #[.string (bs nm_x), .bool ng_x, .slice a_x n_x c_x] 24)
          replace B := Lib.hid (B.out.trans (br.mono B.out.size))
          replace TT := Lib.hid (TT.out.keep br)
          replace Tb := Lib.hid (Tb.out.keep br)
          replace Tu := Lib.hid (Tu.out.keep br)
          replace Tbu := Lib.hid (Tbu.out.keep br)
          replace Tv := Lib.hid (Tv.out.keep br)
          replace Tbv := Lib.hid (Tbv.out.keep br)
          replace Tx := Lib.hid (Tx.out.keep br)
          clear br
          have y0_b := Tb.out.x0
          have y1_b := Tb.out.x1
          have y2_b := Tb.out.x2
          simp only at y0_b y1_b y2_b
          have y0_bu := Tbu.out.x0
          have y1_bu := Tbu.out.x1
          have y2_bu := Tbu.out.x2
          simp only at y0_bu y1_bu y2_bu
          have y0_bv := Tbv.out.x0
          have y1_bv := Tbv.out.x1
          have y2_bv := Tbv.out.x2
          simp only at y0_bv y1_bv y2_bv
          go_wp2_with fail
          clear y0_b y1_b y2_b
          clear y0_bu y1_bu y2_bu
          clear y0_bv y1_bv y2_bv
          generalize W9.alloc (.cells #[.string (bs nm_x), .bool ng_x, .slice a_x n_x c_x] 24) = W10 at *
          generalize W9.heap.size = b_bx at Tbx ⊢
          have C := right10_any ⟨nm_u, ng_u, aa, n, c, l_u⟩ W10 TT.out
          rw [show decide (rightT (TmT.trm ⟨nm_u, ng_u, aa, n, c, l_u⟩)) = true from decide_eq_true HR.out] at C
          refine C.mono ?_
          clear C
          rintro e W11 ⟨rfl, br⟩
          replace B := Lib.hid (B.out.trans (br.mono B.out.size))
          replace TT := Lib.hid (TT.out.keep br)
          replace Tb := Lib.hid (Tb.out.keep br)
          replace Tu := Lib.hid (Tu.out.keep br)
          replace Tbu := Lib.hid (Tbu.out.keep br)
          replace Tv := Lib.hid (Tv.out.keep br)
          replace Tbv := Lib.hid (Tbv.out.keep br)
          replace Tx := Lib.hid (Tx.out.keep br)
          replace Tbx := Lib.hid (Tbx.out.keep br)
          clear br
          have y0_b := Tb.out.x0
          have y1_b := Tb.out.x1
          have y2_b := Tb.out.x2
          simp only at y0_b y1_b y2_b
          have y0_bu := Tbu.out.x0
          have y1_bu := Tbu.out.x1
          have y2_bu := Tbu.out.x2
          simp only at y0_bu y1_bu y2_bu
          have y0_bv := Tbv.out.x0
          have y1_bv := Tbv.out.x1
          have y2_bv := Tbv.out.x2
          simp only at y0_bv y1_bv y2_bv
          have y0_bx := Tbx.out.x0
          have y1_bx := Tbx.out.x1
          have y2_bx := Tbx.out.x2
          simp only at y0_bx y1_bx y2_bx
          go_wp2_with fail
          clear y0_b y1_b y2_b
          clear y0_bu y1_bu y2_bu
          clear y0_bv y1_bv y2_bv
          clear y0_bx y1_bx y2_bx
          have C := same10_any ⟨nm_u, ng_u, aa, n, c, l_u⟩ ⟨nm_u, ng_u, a_u, n_u, c_u, l_u⟩ W11 TT.out Tu.out
          rw [decide_eq_true (show (TmT.trm ⟨nm_u, ng_u, aa, n, c, l_u⟩) = (TmT.trm ⟨nm_u, ng_u, a_u, n_u, c_u, l_u⟩) from rfl)] at C
          refine C.mono ?_
          clear C
          rintro e W12 ⟨rfl, br⟩
          replace B := Lib.hid (B.out.trans (br.mono B.out.size))
          replace TT := Lib.hid (TT.out.keep br)
          replace Tb := Lib.hid (Tb.out.keep br)
          replace Tu := Lib.hid (Tu.out.keep br)
          replace Tbu := Lib.hid (Tbu.out.keep br)
          replace Tv := Lib.hid (Tv.out.keep br)
          replace Tbv := Lib.hid (Tbv.out.keep br)
          replace Tx := Lib.hid (Tx.out.keep br)
          replace Tbx := Lib.hid (Tbx.out.keep br)
          clear br
          have y0_bv := Tbv.out.x0
          have y1_bv := Tbv.out.x1
          have y2_bv := Tbv.out.x2
          simp only at y0_bv y1_bv y2_bv
          have y0_bx := Tbx.out.x0
          have y1_bx := Tbx.out.x1
          have y2_bx := Tbx.out.x2
          simp only at y0_bx y1_bx y2_bx
          go_wp2_with fail
          clear y0_bv y1_bv y2_bv
          clear y0_bx y1_bx y2_bx
          have C := right10_any ⟨nm_x, ng_x, a_v, n_v, c_v, l_x⟩ W12 Tv.out
          rw [show decide (rightT (TmT.trm ⟨nm_x, ng_x, a_v, n_v, c_v, l_x⟩)) = true from decide_eq_true (parse_right HP.out)] at C
          refine C.mono ?_
          clear C
          rintro e W13 ⟨rfl, br⟩
          replace B := Lib.hid (B.out.trans (br.mono B.out.size))
          replace TT := Lib.hid (TT.out.keep br)
          replace Tb := Lib.hid (Tb.out.keep br)
          replace Tu := Lib.hid (Tu.out.keep br)
          replace Tbu := Lib.hid (Tbu.out.keep br)
          replace Tv := Lib.hid (Tv.out.keep br)
          replace Tbv := Lib.hid (Tbv.out.keep br)
          replace Tx := Lib.hid (Tx.out.keep br)
          replace Tbx := Lib.hid (Tbx.out.keep br)
          clear br
          have y0_bv := Tbv.out.x0
          have y1_bv := Tbv.out.x1
          have y2_bv := Tbv.out.x2
          simp only at y0_bv y1_bv y2_bv
          have y0_bx := Tbx.out.x0
          have y1_bx := Tbx.out.x1
          have y2_bx := Tbx.out.x2
          simp only at y0_bx y1_bx y2_bx
          go_wp2_with fail
          clear y0_bv y1_bv y2_bv
          clear y0_bx y1_bx y2_bx
          have C := same10_any ⟨nm_x, ng_x, a_v, n_v, c_v, l_x⟩ ⟨nm_x, ng_x, a_x, n_x, c_x, l_x⟩ W13 Tv.out Tx.out
          rw [decide_eq_true (show (TmT.trm ⟨nm_x, ng_x, a_v, n_v, c_v, l_x⟩) = (TmT.trm ⟨nm_x, ng_x, a_x, n_x, c_x, l_x⟩) from rfl)] at C
          refine C.mono ?_
          clear C
          rintro e W14 ⟨rfl, br⟩
          replace B := Lib.hid (B.out.trans (br.mono B.out.size))
          replace TT := Lib.hid (TT.out.keep br)
          replace Tb := Lib.hid (Tb.out.keep br)
          replace Tu := Lib.hid (Tu.out.keep br)
          replace Tbu := Lib.hid (Tbu.out.keep br)
          replace Tv := Lib.hid (Tv.out.keep br)
          replace Tbv := Lib.hid (Tbv.out.keep br)
          replace Tx := Lib.hid (Tx.out.keep br)
          replace Tbx := Lib.hid (Tbx.out.keep br)
          clear br
          have y0_bv := Tbv.out.x0
          have y1_bv := Tbv.out.x1
          have y2_bv := Tbv.out.x2
          simp only at y0_bv y1_bv y2_bv
          have y0_bx := Tbx.out.x0
          have y1_bx := Tbx.out.x1
          have y2_bx := Tbx.out.x2
          simp only at y0_bx y1_bx y2_bx
          go_wp2_with fail
          clear y0_bv y1_bv y2_bv
          clear y0_bx y1_bx y2_bx
          have C := show10_any ⟨nm_x, ng_x, a_v, n_v, c_v, l_x⟩ W14 Tv.out
          rcases show_parse HP.out with hq | ⟨hq1, hq2⟩
          · rw [show showT (TmT.trm ⟨nm_x, ng_x, a_v, n_v, c_v, l_x⟩) = s from hq] at C
            refine C.mono ?_
            clear C
            rintro e W15 ⟨rfl, br⟩
            replace B := Lib.hid (B.out.trans (br.mono B.out.size))
            replace TT := Lib.hid (TT.out.keep br)
            replace Tb := Lib.hid (Tb.out.keep br)
            replace Tu := Lib.hid (Tu.out.keep br)
            replace Tbu := Lib.hid (Tbu.out.keep br)
            replace Tv := Lib.hid (Tv.out.keep br)
            replace Tbv := Lib.hid (Tbv.out.keep br)
            replace Tx := Lib.hid (Tx.out.keep br)
            replace Tbx := Lib.hid (Tbx.out.keep br)
            clear br
            go_wp2_with fail
            refine (known10_any _).mono ?_
            rintro e w9 ⟨rfl, b9⟩
            go_wp2
            go_ret
            exact ⟨rfl, B.out.trans (b9.mono B.out.size)⟩
          · obtain ⟨sv, hsv⟩ : ∃ sv, showT (TmT.trm ⟨nm_x, ng_x, a_v, n_v, c_v, l_x⟩) = sv := ⟨_, rfl⟩
            rw [hsv] at C
            have hq3 : s.length = sv.length + 2 := by rw [← hsv]; exact hq2
            have HSV := Lib.hid hsv
            have hne : ¬ (bs sv).toList = (bs s).toList := fun e => by
              rw [list_bs, list_bs] at e
              rw [e] at hq3
              omega
            have hn1 : n_v = 1 := by have h1 := Tv.out.1; simp only at h1; rw [← h1]; exact hq1
            have hs1 : (bs s).size = (bs sv).size + 2 := by rw [bs_size, bs_size]; exact hq3
            have hs2 : (bs sv).size ≤ 300 := by rw [bs_size]; omega
            subst hn1
            clear hq1 hq2 hsv hq3
            refine C.mono ?_
            clear C
            rintro e W16 ⟨rfl, br⟩
            replace B := Lib.hid (B.out.trans (br.mono B.out.size))
            replace TT := Lib.hid (TT.out.keep br)
            replace Tb := Lib.hid (Tb.out.keep br)
            replace Tu := Lib.hid (Tu.out.keep br)
            replace Tbu := Lib.hid (Tbu.out.keep br)
            replace Tv := Lib.hid (Tv.out.keep br)
            replace Tbv := Lib.hid (Tbv.out.keep br)
            replace Tx := Lib.hid (Tx.out.keep br)
            replace Tbx := Lib.hid (Tbx.out.keep br)
            clear br
            have y0_bv := Tbv.out.x0
            have y1_bv := Tbv.out.x1
            have y2_bv := Tbv.out.x2
            simp only at y0_bv y1_bv y2_bv
            go_wp2_with fail
            clear y0_bv y1_bv y2_bv
            have C := show10_any ⟨nm_x, ng_x, a_v, 1, c_v, l_x⟩ W16 Tv.out
            rw [show showT (TmT.trm ⟨nm_x, ng_x, a_v, 1, c_v, l_x⟩) = sv from HSV.out] at C
            refine C.mono ?_
            clear C
            rintro e W17 ⟨rfl, br⟩
            replace B := Lib.hid (B.out.trans (br.mono B.out.size))
            replace TT := Lib.hid (TT.out.keep br)
            replace Tb := Lib.hid (Tb.out.keep br)
            replace Tu := Lib.hid (Tu.out.keep br)
            replace Tbu := Lib.hid (Tbu.out.keep br)
            replace Tv := Lib.hid (Tv.out.keep br)
            replace Tbv := Lib.hid (Tbv.out.keep br)
            replace Tx := Lib.hid (Tx.out.keep br)
            replace Tbx := Lib.hid (Tbx.out.keep br)
            clear br
            go_wp2_with fail
            refine (known10_any _).mono ?_
            rintro e w9 ⟨rfl, b9⟩
            go_wp2
            go_ret
            exact ⟨rfl, B.out.trans (b9.mono B.out.size)⟩
        · subst hz
          subst he
          clear PS_v
          unfold tmV zTm
          simp only
          go_wp2_with fail
          have Tbv : Hid (BoxT 24 (W6.alloc (.cells #[.string (bs []), .bool false, .slice none 0 0] 24)) W6.heap.size ⟨[], false, none, 0, 0, []⟩) := Lib.hid (heap_new W6 _)
          have br := (Below.refl W6.heap.size W6).alloc (Nat.le_refl _) (.cells #[.string (bs []), .bool false, .slice none 0 0] 24)
          replace B := Lib.hid (B.out.trans (br.mono B.out.size))
          replace TT := Lib.hid (TT.out.keep br)
          replace Tb := Lib.hid (Tb.out.keep br)
          replace Tu := Lib.hid (Tu.out.keep br)
          replace Tbu := Lib.hid (Tbu.out.keep br)
          replace Tv := Lib.hid (Tv.out.keep br)
          clear br
          generalize W6.alloc (.cells #[.string (bs []), .bool false, .slice none 0 0] 24) = W18 at *
          generalize W6.heap.size = b_bv at Tbv ⊢
          have y0_bv := Tbv.out.x0
          have y1_bv := Tbv.out.x1
          have y2_bv := Tbv.out.x2
          simp only at y0_bv y1_bv y2_bv
          go_wp2_with fail
          clear y0_bv y1_bv y2_bv
          have C := show10_any ⟨[], false, none, 0, 0, []⟩ W18 Tv.out
          rw [show showT (TmT.trm ⟨[], false, none, 0, 0, []⟩) = [] from show_zero] at C
          refine C.mono ?_
          clear C
          rintro e W19 ⟨rfl, br⟩
          replace B := Lib.hid (B.out.trans (br.mono B.out.size))
          replace TT := Lib.hid (TT.out.keep br)
          replace Tb := Lib.hid (Tb.out.keep br)
          replace Tu := Lib.hid (Tu.out.keep br)
          replace Tbu := Lib.hid (Tbu.out.keep br)
          replace Tv := Lib.hid (Tv.out.keep br)
          replace Tbv := Lib.hid (Tbv.out.keep br)
          clear br
          go_wp2_with fail
          refine (parse10_any [] W19 (by simp)).mono ?_
          rintro e W20 ⟨tm, er, rfl, tmo, br, _, ps⟩
          have Tx := Lib.hid tmo
          have PS_x := Lib.hid ps
          clear tmo ps
          replace B := Lib.hid (B.out.trans (br.mono B.out.size))
          replace TT := Lib.hid (TT.out.keep br)
          replace Tb := Lib.hid (Tb.out.keep br)
          replace Tu := Lib.hid (Tu.out.keep br)
          replace Tbu := Lib.hid (Tbu.out.keep br)
          replace Tv := Lib.hid (Tv.out.keep br)
          replace Tbv := Lib.hid (Tbv.out.keep br)
          clear br
          obtain ⟨rfl, rfl⟩ := par_isno parse_nil PS_x.out
          clear PS_x
          unfold tmV zTm
          simp only
          have Tbx : Hid (BoxT 24 (W20.alloc (.cells #[.string (bs []), .bool false, .slice none 0 0] 24)) W20.heap.size ⟨[], false, none, 0, 0, []⟩) := Lib.hid (heap_new W20 _)
          have br := (Below.refl W20.heap.size W20).alloc (Nat.le_refl _) (.cells #[.string (bs []), .bool false, .slice none 0 0] 24)
          replace B := Lib.hid (B.out.trans (br.mono B.out.size))
          replace TT := Lib.hid (TT.out.keep br)
          replace Tb := Lib.hid (Tb.out.keep br)
          replace Tu := Lib.hid (Tu.out.keep br)
          replace Tbu := Lib.hid (Tbu.out.keep br)
          replace Tv := Lib.hid (Tv.out.keep br)
          replace Tbv := Lib.hid (Tbv.out.keep br)
          replace Tx := Lib.hid (Tx.out.keep br)
          clear br
          have y0_b := Tb.out.x0
          have y1_b := Tb.out.x1
          have y2_b := Tb.out.x2
          simp only at y0_b y1_b y2_b
          have y0_bu := Tbu.out.x0
          have y1_bu := Tbu.out.x1
          have y2_bu := Tbu.out.x2
          simp only at y0_bu y1_bu y2_bu
          have y0_bv := Tbv.out.x0
          have y1_bv := Tbv.out.x1
          have y2_bv := Tbv.out.x2
          simp only at y0_bv y1_bv y2_bv
          go_wp2_with fail
          clear y0_b y1_b y2_b
          clear y0_bu y1_bu y2_bu
          clear y0_bv y1_bv y2_bv
          generalize W20.alloc (.cells #[.string (bs []), .bool false, .slice none 0 0] 24) = W21 at *
          generalize W20.heap.size = b_bx at Tbx ⊢
          have C := right10_any ⟨nm_u, ng_u, aa, n, c, l_u⟩ W21 TT.out
          rw [show decide (rightT (TmT.trm ⟨nm_u, ng_u, aa, n, c, l_u⟩)) = true from decide_eq_true HR.out] at C
          refine C.mono ?_
          clear C
          rintro e W22 ⟨rfl, br⟩
          replace B := Lib.hid (B.out.trans (br.mono B.out.size))
          replace TT := Lib.hid (TT.out.keep br)
          replace Tb := Lib.hid (Tb.out.keep br)
          replace Tu := Lib.hid (Tu.out.keep br)
          replace Tbu := Lib.hid (Tbu.out.keep br)
          replace Tv := Lib.hid (Tv.out.keep br)
          replace Tbv := Lib.hid (Tbv.out.keep br)
          replace Tx := Lib.hid (Tx.out.keep br)
          replace Tbx := Lib.hid (Tbx.out.keep br)
          clear br
          have y0_b := Tb.out.x0
          have y1_b := Tb.out.x1
          have y2_b := Tb.out.x2
          simp only at y0_b y1_b y2_b
          have y0_bu := Tbu.out.x0
          have y1_bu := Tbu.out.x1
          have y2_bu := Tbu.out.x2
          simp only at y0_bu y1_bu y2_bu
          have y0_bv := Tbv.out.x0
          have y1_bv := Tbv.out.x1
          have y2_bv := Tbv.out.x2
          simp only at y0_bv y1_bv y2_bv
          have y0_bx := Tbx.out.x0
          have y1_bx := Tbx.out.x1
          have y2_bx := Tbx.out.x2
          simp only at y0_bx y1_bx y2_bx
          go_wp2_with fail
          clear y0_b y1_b y2_b
          clear y0_bu y1_bu y2_bu
          clear y0_bv y1_bv y2_bv
          clear y0_bx y1_bx y2_bx
          have C := same10_any ⟨nm_u, ng_u, aa, n, c, l_u⟩ ⟨nm_u, ng_u, a_u, n_u, c_u, l_u⟩ W22 TT.out Tu.out
          rw [decide_eq_true (show (TmT.trm ⟨nm_u, ng_u, aa, n, c, l_u⟩) = (TmT.trm ⟨nm_u, ng_u, a_u, n_u, c_u, l_u⟩) from rfl)] at C
          refine C.mono ?_
          clear C
          rintro e W23 ⟨rfl, br⟩
          replace B := Lib.hid (B.out.trans (br.mono B.out.size))
          replace TT := Lib.hid (TT.out.keep br)
          replace Tb := Lib.hid (Tb.out.keep br)
          replace Tu := Lib.hid (Tu.out.keep br)
          replace Tbu := Lib.hid (Tbu.out.keep br)
          replace Tv := Lib.hid (Tv.out.keep br)
          replace Tbv := Lib.hid (Tbv.out.keep br)
          replace Tx := Lib.hid (Tx.out.keep br)
          replace Tbx := Lib.hid (Tbx.out.keep br)
          clear br
          have y0_bv := Tbv.out.x0
          have y1_bv := Tbv.out.x1
          have y2_bv := Tbv.out.x2
          simp only at y0_bv y1_bv y2_bv
          have y0_bx := Tbx.out.x0
          have y1_bx := Tbx.out.x1
          have y2_bx := Tbx.out.x2
          simp only at y0_bx y1_bx y2_bx
          go_wp2_with fail
          clear y0_bv y1_bv y2_bv
          clear y0_bx y1_bx y2_bx
          refine (known10_any _).mono ?_
          rintro e w9 ⟨rfl, b9⟩
          go_wp2
          go_ret
          exact ⟨rfl, B.out.trans (b9.mono B.out.size)⟩
      · obtain ⟨rfl, rfl⟩ := par_isno ((parse_show (nm, ng, l)).trans (if_neg hr)) PS_u.out
        clear PS_u
        have HR := Lib.hid hr
        clear hr
        unfold tmV zTm
        simp only
        go_wp2_with fail
        have Tbu : Hid (BoxT 24 (W4.alloc (.cells #[.string (bs []), .bool false, .slice none 0 0] 24)) W4.heap.size ⟨[], false, none, 0, 0, []⟩) := Lib.hid (heap_new W4 _)
        have br := (Below.refl W4.heap.size W4).alloc (Nat.le_refl _) (.cells #[.string (bs []), .bool false, .slice none 0 0] 24)
        replace B := Lib.hid (B.out.trans (br.mono B.out.size))
        replace TT := Lib.hid (TT.out.keep br)
        replace Tb := Lib.hid (Tb.out.keep br)
        replace Tu := Lib.hid (Tu.out.keep br)
        clear br
        generalize W4.alloc (.cells #[.string (bs []), .bool false, .slice none 0 0] 24) = W24 at *
        generalize W4.heap.size = b_bu at Tbu ⊢
        refine (parse10_any s W24 (by omega)).mono ?_
        rintro e W25 ⟨tm, er, rfl, tmo, br, _, ps⟩
        have Tv := Lib.hid tmo
        have PS_v := Lib.hid ps
        clear tmo ps
        replace B := Lib.hid (B.out.trans (br.mono B.out.size))
        replace TT := Lib.hid (TT.out.keep br)
        replace Tb := Lib.hid (Tb.out.keep br)
        replace Tu := Lib.hid (Tu.out.keep br)
        replace Tbu := Lib.hid (Tbu.out.keep br)
        clear br
        obtain hp | ⟨hp, hz, he⟩ := PS_v.out
        · obtain ⟨nm_v, ng_v, a_v, n_v, c_v, l_v⟩ := tm
          obtain ⟨hp, rfl⟩ := hp
          replace hp : parseT s = some (nm_v, ng_v, l_v) := hp
          clear PS_v
          have HP := Lib.hid hp
          clear hp
          unfold tmV
          simp only
          go_wp2_with fail
          have Tbv : Hid (BoxT 24 (W25.alloc (.cells #[.string (bs nm_v), .bool ng_v, .slice a_v n_v c_v] 24)) W25.heap.size ⟨nm_v, ng_v, a_v, n_v, c_v, l_v⟩) := Lib.hid (heap_new W25 _)
          have br := (Below.refl W25.heap.size W25).alloc (Nat.le_refl _) (.cells #[.string (bs nm_v), .bool ng_v, .slice a_v n_v c_v] 24)
          replace B := Lib.hid (B.out.trans (br.mono B.out.size))
          replace TT := Lib.hid (TT.out.keep br)
          replace Tb := Lib.hid (Tb.out.keep br)
          replace Tu := Lib.hid (Tu.out.keep br)
          replace Tbu := Lib.hid (Tbu.out.keep br)
          replace Tv := Lib.hid (Tv.out.keep br)
          clear br
          generalize W25.alloc (.cells #[.string (bs nm_v), .bool ng_v, .slice a_v n_v c_v] 24) = W26 at *
          generalize W25.heap.size = b_bv at Tbv ⊢
          have y0_bv := Tbv.out.x0
          have y1_bv := Tbv.out.x1
          have y2_bv := Tbv.out.x2
          simp only at y0_bv y1_bv y2_bv
          go_wp2_with fail
          clear y0_bv y1_bv y2_bv
          have C := show10_any ⟨nm_v, ng_v, a_v, n_v, c_v, l_v⟩ W26 Tv.out
          refine C.mono ?_
          clear C
          rintro e W27 ⟨rfl, br⟩
          replace B := Lib.hid (B.out.trans (br.mono B.out.size))
          replace TT := Lib.hid (TT.out.keep br)
          replace Tb := Lib.hid (Tb.out.keep br)
          replace Tu := Lib.hid (Tu.out.keep br)
          replace Tbu := Lib.hid (Tbu.out.keep br)
          replace Tv := Lib.hid (Tv.out.keep br)
          replace Tbv := Lib.hid (Tbv.out.keep br)
          clear br
          go_wp2_with fail
          refine (parse10_any (showT (TmT.trm ⟨nm_v, ng_v, a_v, n_v, c_v, l_v⟩)) W27 (show_short _)).mono ?_
          rintro e W28 ⟨tm, er, rfl, tmo, br, _, ps⟩
          have Tx := Lib.hid tmo
          have PS_x := Lib.hid ps
          clear tmo ps
          replace B := Lib.hid (B.out.trans (br.mono B.out.size))
          replace TT := Lib.hid (TT.out.keep br)
          replace Tb := Lib.hid (Tb.out.keep br)
          replace Tu := Lib.hid (Tu.out.keep br)
          replace Tbu := Lib.hid (Tbu.out.keep br)
          replace Tv := Lib.hid (Tv.out.keep br)
          replace Tbv := Lib.hid (Tbv.out.keep br)
          clear br
          obtain ⟨nm_x, ng_x, a_x, n_x, c_x, l_x⟩ := tm
          obtain ⟨hu, rfl⟩ := par_eq ((parse_show (nm_v, ng_v, l_v)).trans (if_pos (parse_right HP.out))) PS_x.out
          unfold TmT.trm at hu
          simp only [Prod.mk.injEq] at hu
          obtain ⟨rfl, rfl, rfl⟩ := hu
          clear PS_x
          unfold tmV
          simp only
          have Tbx : Hid (BoxT 24 (W28.alloc (.cells #[.string (bs nm_x), .bool ng_x, .slice a_x n_x c_x] 24)) W28.heap.size ⟨nm_x, ng_x, a_x, n_x, c_x, l_x⟩) := Lib.hid (heap_new W28 _)
          have br := (Below.refl W28.heap.size W28).alloc (Nat.le_refl _) (.cells #[.string (bs nm_x), .bool ng_x, .slice a_x n_x c_x] 24)
          replace B := Lib.hid (B.out.trans (br.mono B.out.size))
          replace TT := Lib.hid (TT.out.keep br)
          replace Tb := Lib.hid (Tb.out.keep br)
          replace Tu := Lib.hid (Tu.out.keep br)
          replace Tbu := Lib.hid (Tbu.out.keep br)
          replace Tv := Lib.hid (Tv.out.keep br)
          replace Tbv := Lib.hid (Tbv.out.keep br)
          replace Tx := Lib.hid (Tx.out.keep br)
          clear br
          have y0_b := Tb.out.x0
          have y1_b := Tb.out.x1
          have y2_b := Tb.out.x2
          simp only at y0_b y1_b y2_b
          have y0_bu := Tbu.out.x0
          have y1_bu := Tbu.out.x1
          have y2_bu := Tbu.out.x2
          simp only at y0_bu y1_bu y2_bu
          have y0_bv := Tbv.out.x0
          have y1_bv := Tbv.out.x1
          have y2_bv := Tbv.out.x2
          simp only at y0_bv y1_bv y2_bv
          go_wp2_with fail
          clear y0_b y1_b y2_b
          clear y0_bu y1_bu y2_bu
          clear y0_bv y1_bv y2_bv
          generalize W28.alloc (.cells #[.string (bs nm_x), .bool ng_x, .slice a_x n_x c_x] 24) = W29 at *
          generalize W28.heap.size = b_bx at Tbx ⊢
          have C := right10_any ⟨nm, ng, aa, n, c, l⟩ W29 TT.out
          rw [show decide (rightT (TmT.trm ⟨nm, ng, aa, n, c, l⟩)) = false from decide_eq_false HR.out] at C
          refine C.mono ?_
          clear C
          rintro e W30 ⟨rfl, br⟩
          replace B := Lib.hid (B.out.trans (br.mono B.out.size))
          replace TT := Lib.hid (TT.out.keep br)
          replace Tb := Lib.hid (Tb.out.keep br)
          replace Tu := Lib.hid (Tu.out.keep br)
          replace Tbu := Lib.hid (Tbu.out.keep br)
          replace Tv := Lib.hid (Tv.out.keep br)
          replace Tbv := Lib.hid (Tbv.out.keep br)
          replace Tx := Lib.hid (Tx.out.keep br)
          replace Tbx := Lib.hid (Tbx.out.keep br)
          clear br
          have y0_b := Tb.out.x0
          have y1_b := Tb.out.x1
          have y2_b := Tb.out.x2
          simp only at y0_b y1_b y2_b
          have y0_bu := Tbu.out.x0
          have y1_bu := Tbu.out.x1
          have y2_bu := Tbu.out.x2
          simp only at y0_bu y1_bu y2_bu
          have y0_bv := Tbv.out.x0
          have y1_bv := Tbv.out.x1
          have y2_bv := Tbv.out.x2
          simp only at y0_bv y1_bv y2_bv
          have y0_bx := Tbx.out.x0
          have y1_bx := Tbx.out.x1
          have y2_bx := Tbx.out.x2
          simp only at y0_bx y1_bx y2_bx
          go_wp2_with fail
          clear y0_b y1_b y2_b
          clear y0_bu y1_bu y2_bu
          clear y0_bv y1_bv y2_bv
          clear y0_bx y1_bx y2_bx
          have C := right10_any ⟨nm_x, ng_x, a_v, n_v, c_v, l_x⟩ W30 Tv.out
          rw [show decide (rightT (TmT.trm ⟨nm_x, ng_x, a_v, n_v, c_v, l_x⟩)) = true from decide_eq_true (parse_right HP.out)] at C
          refine C.mono ?_
          clear C
          rintro e W31 ⟨rfl, br⟩
          replace B := Lib.hid (B.out.trans (br.mono B.out.size))
          replace TT := Lib.hid (TT.out.keep br)
          replace Tb := Lib.hid (Tb.out.keep br)
          replace Tu := Lib.hid (Tu.out.keep br)
          replace Tbu := Lib.hid (Tbu.out.keep br)
          replace Tv := Lib.hid (Tv.out.keep br)
          replace Tbv := Lib.hid (Tbv.out.keep br)
          replace Tx := Lib.hid (Tx.out.keep br)
          replace Tbx := Lib.hid (Tbx.out.keep br)
          clear br
          have y0_bv := Tbv.out.x0
          have y1_bv := Tbv.out.x1
          have y2_bv := Tbv.out.x2
          simp only at y0_bv y1_bv y2_bv
          have y0_bx := Tbx.out.x0
          have y1_bx := Tbx.out.x1
          have y2_bx := Tbx.out.x2
          simp only at y0_bx y1_bx y2_bx
          go_wp2_with fail
          clear y0_bv y1_bv y2_bv
          clear y0_bx y1_bx y2_bx
          have C := same10_any ⟨nm_x, ng_x, a_v, n_v, c_v, l_x⟩ ⟨nm_x, ng_x, a_x, n_x, c_x, l_x⟩ W31 Tv.out Tx.out
          rw [decide_eq_true (show (TmT.trm ⟨nm_x, ng_x, a_v, n_v, c_v, l_x⟩) = (TmT.trm ⟨nm_x, ng_x, a_x, n_x, c_x, l_x⟩) from rfl)] at C
          refine C.mono ?_
          clear C
          rintro e W32 ⟨rfl, br⟩
          replace B := Lib.hid (B.out.trans (br.mono B.out.size))
          replace TT := Lib.hid (TT.out.keep br)
          replace Tb := Lib.hid (Tb.out.keep br)
          replace Tu := Lib.hid (Tu.out.keep br)
          replace Tbu := Lib.hid (Tbu.out.keep br)
          replace Tv := Lib.hid (Tv.out.keep br)
          replace Tbv := Lib.hid (Tbv.out.keep br)
          replace Tx := Lib.hid (Tx.out.keep br)
          replace Tbx := Lib.hid (Tbx.out.keep br)
          clear br
          have y0_bv := Tbv.out.x0
          have y1_bv := Tbv.out.x1
          have y2_bv := Tbv.out.x2
          simp only at y0_bv y1_bv y2_bv
          have y0_bx := Tbx.out.x0
          have y1_bx := Tbx.out.x1
          have y2_bx := Tbx.out.x2
          simp only at y0_bx y1_bx y2_bx
          go_wp2_with fail
          clear y0_bv y1_bv y2_bv
          clear y0_bx y1_bx y2_bx
          have C := show10_any ⟨nm_x, ng_x, a_v, n_v, c_v, l_x⟩ W32 Tv.out
          rcases show_parse HP.out with hq | ⟨hq1, hq2⟩
          · rw [show showT (TmT.trm ⟨nm_x, ng_x, a_v, n_v, c_v, l_x⟩) = s from hq] at C
            refine C.mono ?_
            clear C
            rintro e W33 ⟨rfl, br⟩
            replace B := Lib.hid (B.out.trans (br.mono B.out.size))
            replace TT := Lib.hid (TT.out.keep br)
            replace Tb := Lib.hid (Tb.out.keep br)
            replace Tu := Lib.hid (Tu.out.keep br)
            replace Tbu := Lib.hid (Tbu.out.keep br)
            replace Tv := Lib.hid (Tv.out.keep br)
            replace Tbv := Lib.hid (Tbv.out.keep br)
            replace Tx := Lib.hid (Tx.out.keep br)
            replace Tbx := Lib.hid (Tbx.out.keep br)
            clear br
            go_wp2_with fail
            refine (known10_any _).mono ?_
            rintro e w9 ⟨rfl, b9⟩
            go_wp2
            go_ret
            exact ⟨rfl, B.out.trans (b9.mono B.out.size)⟩
          · obtain ⟨sv, hsv⟩ : ∃ sv, showT (TmT.trm ⟨nm_x, ng_x, a_v, n_v, c_v, l_x⟩) = sv := ⟨_, rfl⟩
            rw [hsv] at C
            have hq3 : s.length = sv.length + 2 := by rw [← hsv]; exact hq2
            have HSV := Lib.hid hsv
            have hne : ¬ (bs sv).toList = (bs s).toList := fun e => by
              rw [list_bs, list_bs] at e
              rw [e] at hq3
              omega
            have hn1 : n_v = 1 := by have h1 := Tv.out.1; simp only at h1; rw [← h1]; exact hq1
            have hs1 : (bs s).size = (bs sv).size + 2 := by rw [bs_size, bs_size]; exact hq3
            have hs2 : (bs sv).size ≤ 300 := by rw [bs_size]; omega
            subst hn1
            clear hq1 hq2 hsv hq3
            refine C.mono ?_
            clear C
            rintro e W34 ⟨rfl, br⟩
            replace B := Lib.hid (B.out.trans (br.mono B.out.size))
            replace TT := Lib.hid (TT.out.keep br)
            replace Tb := Lib.hid (Tb.out.keep br)
            replace Tu := Lib.hid (Tu.out.keep br)
            replace Tbu := Lib.hid (Tbu.out.keep br)
            replace Tv := Lib.hid (Tv.out.keep br)
            replace Tbv := Lib.hid (Tbv.out.keep br)
            replace Tx := Lib.hid (Tx.out.keep br)
            replace Tbx := Lib.hid (Tbx.out.keep br)
            clear br
            have y0_bv := Tbv.out.x0
            have y1_bv := Tbv.out.x1
            have y2_bv := Tbv.out.x2
            simp only at y0_bv y1_bv y2_bv
            go_wp2_with fail
            clear y0_bv y1_bv y2_bv
            have C := show10_any ⟨nm_x, ng_x, a_v, 1, c_v, l_x⟩ W34 Tv.out
            rw [show showT (TmT.trm ⟨nm_x, ng_x, a_v, 1, c_v, l_x⟩) = sv from HSV.out] at C
            refine C.mono ?_
            clear C
            rintro e W35 ⟨rfl, br⟩
            replace B := Lib.hid (B.out.trans (br.mono B.out.size))
            replace TT := Lib.hid (TT.out.keep br)
            replace Tb := Lib.hid (Tb.out.keep br)
            replace Tu := Lib.hid (Tu.out.keep br)
            replace Tbu := Lib.hid (Tbu.out.keep br)
            replace Tv := Lib.hid (Tv.out.keep br)
            replace Tbv := Lib.hid (Tbv.out.keep br)
            replace Tx := Lib.hid (Tx.out.keep br)
            replace Tbx := Lib.hid (Tbx.out.keep br)
            clear br
            go_wp2_with fail
            refine (known10_any _).mono ?_
            rintro e w9 ⟨rfl, b9⟩
            go_wp2
            go_ret
            exact ⟨rfl, B.out.trans (b9.mono B.out.size)⟩
        · subst hz
          subst he
          clear PS_v
          unfold tmV zTm
          simp only
          go_wp2_with fail
          have Tbv : Hid (BoxT 24 (W25.alloc (.cells #[.string (bs []), .bool false, .slice none 0 0] 24)) W25.heap.size ⟨[], false, none, 0, 0, []⟩) := Lib.hid (heap_new W25 _)
          have br := (Below.refl W25.heap.size W25).alloc (Nat.le_refl _) (.cells #[.string (bs []), .bool false, .slice none 0 0] 24)
          replace B := Lib.hid (B.out.trans (br.mono B.out.size))
          replace TT := Lib.hid (TT.out.keep br)
          replace Tb := Lib.hid (Tb.out.keep br)
          replace Tu := Lib.hid (Tu.out.keep br)
          replace Tbu := Lib.hid (Tbu.out.keep br)
          replace Tv := Lib.hid (Tv.out.keep br)
          clear br
          generalize W25.alloc (.cells #[.string (bs []), .bool false, .slice none 0 0] 24) = W36 at *
          generalize W25.heap.size = b_bv at Tbv ⊢
          have y0_bv := Tbv.out.x0
          have y1_bv := Tbv.out.x1
          have y2_bv := Tbv.out.x2
          simp only at y0_bv y1_bv y2_bv
          go_wp2_with fail
          clear y0_bv y1_bv y2_bv
          have C := show10_any ⟨[], false, none, 0, 0, []⟩ W36 Tv.out
          rw [show showT (TmT.trm ⟨[], false, none, 0, 0, []⟩) = [] from show_zero] at C
          refine C.mono ?_
          clear C
          rintro e W37 ⟨rfl, br⟩
          replace B := Lib.hid (B.out.trans (br.mono B.out.size))
          replace TT := Lib.hid (TT.out.keep br)
          replace Tb := Lib.hid (Tb.out.keep br)
          replace Tu := Lib.hid (Tu.out.keep br)
          replace Tbu := Lib.hid (Tbu.out.keep br)
          replace Tv := Lib.hid (Tv.out.keep br)
          replace Tbv := Lib.hid (Tbv.out.keep br)
          clear br
          go_wp2_with fail
          refine (parse10_any [] W37 (by simp)).mono ?_
          rintro e W38 ⟨tm, er, rfl, tmo, br, _, ps⟩
          have Tx := Lib.hid tmo
          have PS_x := Lib.hid ps
          clear tmo ps
          replace B := Lib.hid (B.out.trans (br.mono B.out.size))
          replace TT := Lib.hid (TT.out.keep br)
          replace Tb := Lib.hid (Tb.out.keep br)
          replace Tu := Lib.hid (Tu.out.keep br)
          replace Tbu := Lib.hid (Tbu.out.keep br)
          replace Tv := Lib.hid (Tv.out.keep br)
          replace Tbv := Lib.hid (Tbv.out.keep br)
          clear br
          obtain ⟨rfl, rfl⟩ := par_isno parse_nil PS_x.out
          clear PS_x
          unfold tmV zTm
          simp only
          have Tbx : Hid (BoxT 24 (W38.alloc (.cells #[.string (bs []), .bool false, .slice none 0 0] 24)) W38.heap.size ⟨[], false, none, 0, 0, []⟩) := Lib.hid (heap_new W38 _)
          have br := (Below.refl W38.heap.size W38).alloc (Nat.le_refl _) (.cells #[.string (bs []), .bool false, .slice none 0 0] 24)
          replace B := Lib.hid (B.out.trans (br.mono B.out.size))
          replace TT := Lib.hid (TT.out.keep br)
          replace Tb := Lib.hid (Tb.out.keep br)
          replace Tu := Lib.hid (Tu.out.keep br)
          replace Tbu := Lib.hid (Tbu.out.keep br)
          replace Tv := Lib.hid (Tv.out.keep br)
          replace Tbv := Lib.hid (Tbv.out.keep br)
          replace Tx := Lib.hid (Tx.out.keep br)
          clear br
          have y0_b := Tb.out.x0
          have y1_b := Tb.out.x1
          have y2_b := Tb.out.x2
          simp only at y0_b y1_b y2_b
          have y0_bu := Tbu.out.x0
          have y1_bu := Tbu.out.x1
          have y2_bu := Tbu.out.x2
          simp only at y0_bu y1_bu y2_bu
          have y0_bv := Tbv.out.x0
          have y1_bv := Tbv.out.x1
          have y2_bv := Tbv.out.x2
          simp only at y0_bv y1_bv y2_bv
          go_wp2_with fail
          clear y0_b y1_b y2_b
          clear y0_bu y1_bu y2_bu
          clear y0_bv y1_bv y2_bv
          generalize W38.alloc (.cells #[.string (bs []), .bool false, .slice none 0 0] 24) = W39 at *
          generalize W38.heap.size = b_bx at Tbx ⊢
          have C := right10_any ⟨nm, ng, aa, n, c, l⟩ W39 TT.out
          rw [show decide (rightT (TmT.trm ⟨nm, ng, aa, n, c, l⟩)) = false from decide_eq_false HR.out] at C
          refine C.mono ?_
          clear C
          rintro e W40 ⟨rfl, br⟩
          replace B := Lib.hid (B.out.trans (br.mono B.out.size))
          replace TT := Lib.hid (TT.out.keep br)
          replace Tb := Lib.hid (Tb.out.keep br)
          replace Tu := Lib.hid (Tu.out.keep br)
          replace Tbu := Lib.hid (Tbu.out.keep br)
          replace Tv := Lib.hid (Tv.out.keep br)
          replace Tbv := Lib.hid (Tbv.out.keep br)
          replace Tx := Lib.hid (Tx.out.keep br)
          replace Tbx := Lib.hid (Tbx.out.keep br)
          clear br
          have y0_b := Tb.out.x0
          have y1_b := Tb.out.x1
          have y2_b := Tb.out.x2
          simp only at y0_b y1_b y2_b
          have y0_bu := Tbu.out.x0
          have y1_bu := Tbu.out.x1
          have y2_bu := Tbu.out.x2
          simp only at y0_bu y1_bu y2_bu
          have y0_bv := Tbv.out.x0
          have y1_bv := Tbv.out.x1
          have y2_bv := Tbv.out.x2
          simp only at y0_bv y1_bv y2_bv
          have y0_bx := Tbx.out.x0
          have y1_bx := Tbx.out.x1
          have y2_bx := Tbx.out.x2
          simp only at y0_bx y1_bx y2_bx
          go_wp2_with fail
          clear y0_b y1_b y2_b
          clear y0_bu y1_bu y2_bu
          clear y0_bv y1_bv y2_bv
          clear y0_bx y1_bx y2_bx
          refine (known10_any _).mono ?_
          rintro e w9 ⟨rfl, b9⟩
          go_wp2
          go_ret
          exact ⟨rfl, B.out.trans (b9.mono B.out.size)⟩
    · rw [decide_eq_false hA] at C
      clear hA
      refine C.mono ?_
      clear C
      rintro e W41 ⟨rfl, br⟩
      replace B := Lib.hid (B.out.trans (br.mono B.out.size))
      replace TT := Lib.hid (TT.out.keep br)
      replace Tb := Lib.hid (Tb.out.keep br)
      clear br
      go_wp2_with fail
      refine (known10_any _).mono ?_
      rintro e w9 ⟨rfl, b9⟩
      go_wp2
      go_ret
      exact ⟨rfl, B.out.trans (b9.mono B.out.size)⟩
  · have hz1 : (300 : Int) < ((bs s).size : Int) := by rw [bs_size]; omega
    have hz2 : 300 < (bs s).size := by rw [bs_size]; omega
    go_enter Tryz.func6, Tryz.ntmps6
    go_wp2_with fail
    have Tb : Hid (BoxT 24 (w.alloc (.cells #[.string (bs nm), .bool ng, .slice aa n c] 24)) w.heap.size ⟨nm, ng, aa, n, c, l⟩) := Lib.hid (heap_new w _)
    have br := (Below.refl w.heap.size w).alloc (Nat.le_refl _) (.cells #[.string (bs nm), .bool ng, .slice aa n c] 24)
    replace B := Lib.hid (B.out.trans (br.mono B.out.size))
    replace TT := Lib.hid (TT.out.keep br)
    clear br
    generalize w.alloc (.cells #[.string (bs nm), .bool ng, .slice aa n c] 24) = W42 at *
    generalize w.heap.size = b_b at Tb ⊢
    have C := light10_any ⟨nm, ng, aa, n, c, l⟩ W42 TT.out
    by_cases hA : lightT ⟨nm, ng, aa, n, c, l⟩
    · rw [decide_eq_true hA] at C
      clear hA
      refine C.mono ?_
      clear C
      rintro e W43 ⟨rfl, br⟩
      replace B := Lib.hid (B.out.trans (br.mono B.out.size))
      replace TT := Lib.hid (TT.out.keep br)
      replace Tb := Lib.hid (Tb.out.keep br)
      clear br
      have y0_b := Tb.out.x0
      have y1_b := Tb.out.x1
      have y2_b := Tb.out.x2
      simp only at y0_b y1_b y2_b
      go_wp2_with fail
      clear y0_b y1_b y2_b
      refine (known10_any _).mono ?_
      rintro e w9 ⟨rfl, b9⟩
      go_wp2
      go_ret
      exact ⟨rfl, B.out.trans (b9.mono B.out.size)⟩
    · rw [decide_eq_false hA] at C
      clear hA
      refine C.mono ?_
      clear C
      rintro e W44 ⟨rfl, br⟩
      replace B := Lib.hid (B.out.trans (br.mono B.out.size))
      replace TT := Lib.hid (TT.out.keep br)
      replace Tb := Lib.hid (Tb.out.keep br)
      clear br
      go_wp2_with fail
      refine (known10_any _).mono ?_
      rintro e w9 ⟨rfl, b9⟩
      go_wp2
      go_ret
      exact ⟨rfl, B.out.trans (b9.mono B.out.size)⟩
set_option maxRecDepth 100000 in
theorem lifted (os : Os) (started : os.Started) (H : Type) (enc : TypeId × Value → H) :
    ReturnsInHanded {} Tryz.checked os 6 .any (fun w args => (Rows.filterBackSpec.pre enc Tryz.prog Tryz.f6 [] false w args ∧ laidMetH Tryz.prog laidL w) ∧ sizedMet enc Tryz.prog Tryz.f6 (OpenSpec.ofChange Rows.filterBackSpec) false w args)
      (Rows.filterBackSpec.post enc Tryz.prog Tryz.f6 false true false false) := by
  refine returnsInHanded_of_change_and (C := Tryz.checked) (X := fun w _ => laidMetH Tryz.prog laidL w) (fun _ _ _ hh h => h.of_heap hh) own started (by kernel_rfl) Tryz.func6
    (ChangeSpec.witness_shaped (enc := enc) (C := Tryz.checked) (os := os) (X := fun w _ => laidMetH Tryz.prog laidL w) false (World.laidAll Tryz.prog os laidL) #[.agg #[.string ByteArray.empty, .bool false, .slice none 0 0], .string ByteArray.empty] 8 (World.laidAll_os _ _ _) (door_shape os _) (by kernel_rfl) (by kernel_rfl) (by kernel_rfl) (door_met os _)) ?_
  intro W base args ds gs before hval0 hW _ _ hL _
  have hval : ∀ (j : Nat) t v, Tryz.f6.params[j]? = some t → args[j]? = some v → Value.okWide Tryz.prog W .any base t v := hval0
  have hW' := hW
  obtain ⟨p, q, hA0, hV, rfl, hfz, hnd⟩ := hW
  have hA : DataW.TrodAll enc Tryz.prog W 0 (fun _ => true) true Tryz.f6.params.toList args.toList ds p := hA0
  rw [Tryz.params6] at hA hval
  obtain ⟨v0, vs0, d0, ds0, p0, q0, hargs, rfl, rfl, h0, r0⟩ := trodAll_cons hA
  obtain ⟨v1, vs1, d1, ds1, p1, q1, rfl, rfl, rfl, h1, r1⟩ := trodAll_cons r0
  obtain ⟨rfl, rfl, rfl⟩ := trodAll_nil r1
  obtain rfl : args = #[v0, v1] := by cases args; simp_all
  obtain ⟨rfl, rfl⟩ := trodVars_none hV
  have k0 := h0
  have lt0 : ∀ x ∈ p0, x.block < W.heap.size := by obtain ⟨m, hm⟩ := k0; exact DataW.trod_lt m _ _ _ hm
  obtain ⟨a0, rfl, w0⟩ := open_tm10 (hval 0 24 v0 rfl rfl) h0
  obtain ⟨a1, rfl, rfl, rfl, w1⟩ := open_string Tryz.underlying9 (hval 1 9 v1 rfl rfl) h1
  clear hA0 hval0
  refine (walk a0 a1 W w0 w1).mono fun e W' ⟨he, bel⟩ => ?_
  subst he
  exact ⟨_, rfl, _, _, _, [], _, [], hW', trodAll_mk1 (shut_bool Tryz.underlying4 _), (trodAll_cons_mk (Below.trod laidOut (by kernel_rfl) (of_decide_eq_true (by kernel_rfl)) k0 bel lt0) (trodAll_cons_mk (shut_string Tryz.underlying9 w1) trodAll_mk0)), rfl, bel.frame _, fun h => by cases h⟩

theorem over : Rows.filterBackRow.holds Tryz.pinned (OpenSpec.ofChange Rows.filterBackSpec) :=
  OpenClaim.holds_of_wide 6 Tryz.f6 rfl rfl rfl rfl rfl rfl rfl ⟨rfl, rfl, rfl, rfl, rfl⟩ rfl rfl rfl rfl rfl (by kernel_rfl) Tryz.func6 (by kernel_rfl)
    (of_decide_eq_true (by kernel_rfl)) (by unfold Func.isWrapper; first | (rw [if_pos (by decide +kernel)]; kernel_rfl) | (rw [if_neg (by decide +kernel)]; exact ⟨rfl, rfl⟩))
    (fun os started H enc _ => lifted os started H enc)

theorem proved : Rows.FilterBackCardSaid :=
  Claim7.holds_tied_plain_at .later [] Rows.filterBackCard.laidKinds true Rows.filterBackCard.stood.harness false
    over (fun _ h => by cases h) (by kernel_rfl) (fun _ h => by cases h) filterBack_row_tie rfl ⟨rfl, rfl⟩ (by kernel_rfl) rfl
    (fun f fn hf hfn => by
      obtain rfl : f = 6 := Option.some.inj ((show Tryz.prog.funcNamed "tachograph/tachographlaw10.FilterBack" = some 6 by kernel_rfl).symm.trans hf) |>.symm
      obtain rfl : fn = Tryz.f6 := (Option.some.inj (Tryz.func6.symm.trans hfn)).symm
      exact ⟨by kernel_rfl, fun j t ht => by
        rw [Tryz.params6] at ht
        have hm : t ∈ [24, 9] := by simpa using Array.mem_of_getElem? ht
        have hall : ([24, 9].all fun u => !Tryz.prog.wantsStandIn u) = true := by kernel_rfl
        exact (show Tryz.prog.wantsStandIn t = false by simpa using List.all_eq_true.1 hall t hm)⟩)
    (by kernel_rfl)
end filterBack
theorem filterBack_holds : Rows.FilterBackCardSaid := filterBack.proved
#print axioms filterBack_holds
end Go.Proofs.YtifjbbiphekmmaaGreatDoor
