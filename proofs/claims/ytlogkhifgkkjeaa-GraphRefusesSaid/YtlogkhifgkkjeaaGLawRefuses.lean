/-
  The statement 'GraphRefuses' of layer 11: a rule that is refused changes nothing, and a copy takes it in the same way.
  No condition on the arguments.
-/
import Derived.Test.YtlogkhifgkkjeaaGKnown
import Derived.Test.YtlogkhifgkkjeaaGArgs
import Derived.Test.YtlogkhifgkkjeaaRows
import Derived.Test.YtlogkhifgkkjeaaGUse
import Derived.ChangeOld
namespace Go.Proofs.Ytlogkhifgkkjeaa
namespace graphRefuses
open Go.ChangeShapes Go.WideShapes Go.ChangeAt Go.RowKit
open Go.ChangeMaps (open_string shut_string)
set_option linter.unusedVariables false
set_option linter.unusedSimpArgs false

theorem own : ownKnob Try.prog.godebug = none := by kernel_rfl

set_option maxRecDepth 100000 in
set_option maxHeartbeats 16000000 in
theorem walk (a : Option Addr) (n c : Nat) (z : List OpG) (r : Ru) (w : World) (h : OpAt w a n c z) (_ : True) :
    Calls Try.prog 8 #[.slice a n c, ruV r] w fun e w' => e = .returned (.bool true) ∧ Below w.heap.size w w' := by
  have HOp := Lib.hid h
  unfold ruV
  have B1 := Lib.hid ((Below.refl w.heap.size w).alloc (Nat.le_refl _) (.cells #[.string (bs r.src), .string (bs r.dst), .int .i64 r.kind, .int .i64 r.size, .int .i64 r.align] 31))
  have K1 := Lib.hid (BoxU.new 31 w r)
  clear h
  go_enter Try.func8, Try.ntmps8
  go_wp2_with fail
  have hs := B1.out.size
  generalize w.alloc (.cells #[.string (bs r.src), .string (bs r.dst), .int .i64 r.kind, .int .i64 r.size, .int .i64 r.align] 31) = W1 at *
  refine (gnew_any _).mono ?_
  rintro e W2 ⟨x, bi, bf, F0, rfl, hg, hb, hx, hF⟩
  have X : Hid (GOwn w.heap.size w W2 x bi bf F0 []) := Lib.hid (GOwn.new B1.out hs hg hb hx hF)
  have K : Hid (BoxO 31 F0 W2 w.heap.size r) := Lib.hid ⟨K1.out.keep hb, fun f => by have h1 := K1.out.lt; have h2 := hF _ f; omega⟩
  clear hg hb hx hF K1 B1 hs
  revert K
  generalize hBp : w.heap.size = Bp
  intro K
  have HBp := Lib.hid hBp
  clear hBp
  have x0 := K.out.box.x0
  have x1 := K.out.box.x1
  have x2 := K.out.box.x2
  have x3 := K.out.box.x3
  have x4 := K.out.box.x4
  go_wp2_with fail
  have C := olight r W2
  by_cases hlr : lightU r
  · rw [decide_eq_true hlr] at C
    clear hlr
    refine C.mono ?_
    clear C
    rintro e W3 ⟨rfl, br⟩
    replace X := Lib.hid (X.out.keep br)
    replace K := Lib.hid (K.out.keep br)
    clear br x0 x1 x2 x3 x4
    go_wp2
    go_loopw [6] (fun i wr => ∃ (j : Nat) (F : Nat → Prop) (L : List Ru), j ≤ 40 ∧ i = .int .i64 (j : Int) ∧ Hid (GOwn w.heap.size w wr x bi bf F L) ∧ Hid (L.length ≤ j) ∧ Hid (BoxO 31 F wr Bp r)) (fun i _ => 40 - (intOf i).toNat)
    case atStart => exact ⟨0, F0, [], by omega, rfl, X, Lib.hid (Nat.le_refl _), K⟩
    case round =>
      obtain ⟨j, F, L, hj, rfl, X, HL, K⟩ := hrel
      have hl := HL.out
      have hj0 : (0 : Int) ≤ (j : Int) := by omega
      by_cases hjn : j < n
      · have hjz : (j : Int) < (n : Int) := by omega
        by_cases h40 : j < 40
        · have h40z : (j : Int) < 40 := by omega
          obtain ⟨b, off, rfl, hb, k0, x0, x1, x2, x3, x4⟩ := (HOp.out.keep X.out.bel).at_ j hjn
          have HAT := Lib.hid (fun W (hW : Below w.heap.size w W) => (HOp.out.keep hW).at_ j hjn)
          have HLI := Lib.hid (fun W => olight (opG z j).r W)
          generalize (opG z j).r = q at *
          unfold ruV at HLI
          by_cases hq : lightU q
          · rw [decide_eq_true hq] at HLI
            clear hq
            go_wp2_with fail
            refine (HLI.out _).mono ?_
            rintro e V1 ⟨rfl, br⟩
            have X2 := Lib.hid (X.out.keep br)
            have K2 := Lib.hid (K.out.keep br)
            clear x0 x1 x2 x3 x4 k0
            obtain ⟨b2, off2, e2, hb2, k0, x0, x1, x2, x3, x4⟩ := HAT.out V1 X2.out.bel
            cases e2
            clear br HAT HLI
            go_wp2_with fail
            refine (oadd q X2.out (by omega)).mono ?_
            rintro e V2 ⟨rfl, F2, oo, tt⟩
            have K3 := Lib.hid (K2.out.turn tt)
            have hl2 := Nat.le_trans (addU_len L q) (Nat.succ_le_succ hl)
            have OO := Lib.hid oo
            clear x0 x1 x2 x3 x4 k0 oo tt
            go_wp2
            go_roundw
            case rel => exact ⟨j + 1, F2, addU L q, by omega, by go_num, OO, Lib.hid hl2, K3⟩
            case measure => simp [intOf]; omega
          · rw [decide_eq_false hq] at HLI
            clear hq
            go_wp2_with fail
            refine (HLI.out _).mono ?_
            rintro e V1 ⟨rfl, br⟩
            have X2 := Lib.hid (X.out.keep br)
            have K2 := Lib.hid (K.out.keep br)
            clear x0 x1 x2 x3 x4 k0 br HAT HLI
            go_wp2
            go_roundw
            case rel => exact ⟨j + 1, F, L, by omega, by go_num, X2, Lib.hid (by omega), K2⟩
            case measure => simp [intOf]; omega
        · have h40z : ¬ (j : Int) < 40 := by omega
          have hL : L.length ≤ 40 := by omega
          have HGL := Lib.hid X.out.gr.good
          go_wp2_with fail
          refine (oall X.out (by omega)).mono ?_
          rintro e V1 ⟨v7, rfl, rr, br⟩
          have R7 := Lib.hid (RowO.new X.out.gr rr)
          clear rr
          replace X := Lib.hid (X.out.keep br)
          replace K := Lib.hid (K.out.keep br)
          clear br
          go_wp2_with fail
          refine (ocopy X.out (by omega)).mono ?_
          rintro e V2 ⟨y, ci, cf, G, rfl, cc, br, ap, hy, hG⟩
          have KG : Hid (¬ G Bp) := Lib.hid (fun f => by have h1 := K.out.box.lt; have h2 := hG _ f; omega)
          have RG : Hid (∀ k, v7.ownBlock = some k → ¬ G k) := Lib.hid (fun k hk f => by have h1 := R7.out.row.lt hk; have h2 := hG k f; omega)
          have C := Lib.hid cc
          have AP := Lib.hid ap
          clear cc ap hy hG
          replace X := Lib.hid (X.out.keep br)
          replace K := Lib.hid (K.out.keep br)
          replace R7 := Lib.hid (R7.out.keep br)
          clear br
          have x0 := K.out.box.x0
          have x1 := K.out.box.x1
          have x2 := K.out.box.x2
          have x3 := K.out.box.x3
          have x4 := K.out.box.x4
          go_wp2_with fail
          refine (oadd r X.out (by omega)).mono ?_
          rintro e V3 ⟨rfl, F2, oo, tt⟩
          have C2 := Lib.hid (AP.out.keepG tt C.out X.out)
          have AP2 := Lib.hid (AP.out.turn tt C.out)
          replace K := Lib.hid (K.out.turn tt)
          replace R7 := Lib.hid (R7.out.turn tt)
          have X2 := Lib.hid oo
          clear X C AP oo tt x0 x1 x2 x3 x4
          have x0 := K.out.box.x0
          have x1 := K.out.box.x1
          have x2 := K.out.box.x2
          have x3 := K.out.box.x3
          have x4 := K.out.box.x4
          go_wp2_with fail
          refine (oadd r C2.out (by omega)).mono ?_
          rintro e V4 ⟨rfl, G2, oo, tt⟩
          have X3 := Lib.hid (AP2.out.symm.keepG tt X2.out C2.out)
          replace K := Lib.hid (K.out.other KG.out tt)
          replace R7 := Lib.hid (R7.out.other RG.out tt)
          have C3 := Lib.hid oo
          have hL2 := Nat.le_trans (addU_len L r) (Nat.succ_le_succ hL)
          have HG0 := Lib.hid (fun h => (add_same (L := L) (r := r) h))
          have HG1 := Lib.hid (fun h => (add_twice (L := L) (r := r) HGL.out h))
          have HG2 := Lib.hid (fun h => (add_len (L := L) (r := r) h))
          clear X2 C2 AP2 oo tt x0 x1 x2 x3 x4
          generalize addU L r = M at *
          generalize addE L r = ee at *
          go_wp2_with fail
          refine (oall X3.out (by omega)).mono ?_
          rintro e V5 ⟨v62, rfl, r62', br⟩
          have R62 := Lib.hid r62'
          replace X3 := Lib.hid (X3.out.keep br)
          replace C3 := Lib.hid (C3.out.keep br)
          replace K := Lib.hid (K.out.keep br)
          replace R7 := Lib.hid (R7.out.keep br)
          clear br r62'
          go_wp2_with fail
          refine (plainO R62.out (by omega)).mono ?_
          rintro e V6 ⟨v63, rfl, r63', br⟩
          have R63 := Lib.hid r63'
          replace X3 := Lib.hid (X3.out.keep br)
          replace C3 := Lib.hid (C3.out.keep br)
          replace K := Lib.hid (K.out.keep br)
          replace R7 := Lib.hid (R7.out.keep br)
          clear br r63' R62
          go_wp2_with fail
          refine (oall C3.out (by omega)).mono ?_
          rintro e V7 ⟨v65, rfl, r65', br⟩
          have R65 := Lib.hid r65'
          replace X3 := Lib.hid (X3.out.keep br)
          replace R63 := Lib.hid (R63.out.keep br)
          replace K := Lib.hid (K.out.keep br)
          replace R7 := Lib.hid (R7.out.keep br)
          clear br r65' C3
          go_wp2_with fail
          refine (plainO R65.out (by omega)).mono ?_
          rintro e V8 ⟨v66, rfl, r66', br⟩
          have R66 := Lib.hid r66'
          replace X3 := Lib.hid (X3.out.keep br)
          replace R63 := Lib.hid (R63.out.keep br)
          replace K := Lib.hid (K.out.keep br)
          replace R7 := Lib.hid (R7.out.keep br)
          clear br r66' R65
          go_wp2_with fail
          have C := sameO R63.out R66.out
          rw [show decide (M = M) = true from decide_eq_true rfl] at C
          refine C.mono ?_
          clear C
          rintro e V9 ⟨rfl, br⟩
          replace X3 := Lib.hid (X3.out.keep br)
          replace K := Lib.hid (K.out.keep br)
          replace R7 := Lib.hid (R7.out.keep br)
          clear br R63 R66
          have x0 := K.out.box.x0
          have x1 := K.out.box.x1
          have x2 := K.out.box.x2
          have x3 := K.out.box.x3
          have x4 := K.out.box.x4
          by_cases he : ee = 0
          · subst he
            have e6 := HG1.out rfl
            have el := HG2.out rfl
            have C := oadd r X3.out (by omega)
            rw [e6, addU_no (by rw [e6]; decide)] at C
            have HC := Lib.hid C
            have HEL := Lib.hid el
            clear C e6 el HG0 HG1 HG2
            go_wp2_with fail
            refine HC.out.mono ?_
            rintro e V10 ⟨rfl, F3, oo, tt⟩
            replace R7 := Lib.hid (R7.out.turn tt)
            replace X3 := Lib.hid oo
            clear HC oo tt x0 x1 x2 x3 x4 K
            go_wp2_with fail
            refine (oall X3.out (by omega)).mono ?_
            rintro e V11 ⟨v94, rfl, r94, br⟩
            replace X3 := Lib.hid (X3.out.keep br)
            obtain ⟨a94, c94, e94, _, _⟩ := r94.shape
            obtain ⟨a7, c7, e7, _, _⟩ := R7.out.row.shape
            rw [HEL.out] at e94
            subst e94 e7
            clear R7 r94 br
            generalize L.length = m at *
            have hm1 : ((m + 1 : Nat) : Int) = (m : Int) + 1 := by omega
            go_wp2_with fail
            refine (known11_any _).mono ?_
            rintro e V12 ⟨rfl, br⟩
            replace X3 := Lib.hid (X3.out.keep br)
            go_wp2
            go_ret
            exact ⟨rfl, X3.out.bel⟩
          · obtain ⟨e1, e2⟩ := HG0.out he
            subst e2
            have C := oadd r X3.out (by omega)
            rw [addU_no (by rw [e1]; exact he), e1] at C
            have HC := Lib.hid C
            have hee : (ee == ee) = true := by simp
            clear C e1 HG0 HG1 HG2
            go_wp2_with fail
            refine HC.out.mono ?_
            rintro e V10 ⟨rfl, F3, oo, tt⟩
            replace R7 := Lib.hid (R7.out.turn tt)
            replace X3 := Lib.hid oo
            clear HC oo tt x0 x1 x2 x3 x4 K
            go_wp2_with fail
            refine (oall X3.out (by omega)).mono ?_
            rintro e V11 ⟨v79, rfl, r79', br⟩
            have R79 := Lib.hid r79'
            replace X3 := Lib.hid (X3.out.keep br)
            replace R7 := Lib.hid (R7.out.keep br)
            clear br r79'
            go_wp2_with fail
            refine (plainO R79.out (by omega)).mono ?_
            rintro e V12 ⟨v80, rfl, r80', br⟩
            have R80 := Lib.hid r80'
            replace X3 := Lib.hid (X3.out.keep br)
            replace R7 := Lib.hid (R7.out.keep br)
            clear br r80' R79
            go_wp2_with fail
            refine (plainO R7.out.row (by omega)).mono ?_
            rintro e V13 ⟨v82, rfl, r82', br⟩
            have R82 := Lib.hid r82'
            replace X3 := Lib.hid (X3.out.keep br)
            replace R80 := Lib.hid (R80.out.keep br)
            clear br r82' R7
            go_wp2_with fail
            have C := sameO R80.out R82.out
            rw [show decide (M = M) = true from decide_eq_true rfl] at C
            refine C.mono ?_
            clear C
            rintro e V14 ⟨rfl, br⟩
            replace X3 := Lib.hid (X3.out.keep br)
            clear br R80 R82
            go_wp2_with fail
            refine (known11_any _).mono ?_
            rintro e V15 ⟨rfl, br⟩
            replace X3 := Lib.hid (X3.out.keep br)
            go_wp2
            go_ret
            exact ⟨rfl, X3.out.bel⟩
      · have hjz : ¬ (j : Int) < (n : Int) := by omega
        have hL : L.length ≤ 40 := by omega
        have HGL := Lib.hid X.out.gr.good
        go_wp2_with fail
        refine (oall X.out (by omega)).mono ?_
        rintro e V1 ⟨v7, rfl, rr, br⟩
        have R7 := Lib.hid (RowO.new X.out.gr rr)
        clear rr
        replace X := Lib.hid (X.out.keep br)
        replace K := Lib.hid (K.out.keep br)
        clear br
        go_wp2_with fail
        refine (ocopy X.out (by omega)).mono ?_
        rintro e V2 ⟨y, ci, cf, G, rfl, cc, br, ap, hy, hG⟩
        have KG : Hid (¬ G Bp) := Lib.hid (fun f => by have h1 := K.out.box.lt; have h2 := hG _ f; omega)
        have RG : Hid (∀ k, v7.ownBlock = some k → ¬ G k) := Lib.hid (fun k hk f => by have h1 := R7.out.row.lt hk; have h2 := hG k f; omega)
        have C := Lib.hid cc
        have AP := Lib.hid ap
        clear cc ap hy hG
        replace X := Lib.hid (X.out.keep br)
        replace K := Lib.hid (K.out.keep br)
        replace R7 := Lib.hid (R7.out.keep br)
        clear br
        have x0 := K.out.box.x0
        have x1 := K.out.box.x1
        have x2 := K.out.box.x2
        have x3 := K.out.box.x3
        have x4 := K.out.box.x4
        go_wp2_with fail
        refine (oadd r X.out (by omega)).mono ?_
        rintro e V3 ⟨rfl, F2, oo, tt⟩
        have C2 := Lib.hid (AP.out.keepG tt C.out X.out)
        have AP2 := Lib.hid (AP.out.turn tt C.out)
        replace K := Lib.hid (K.out.turn tt)
        replace R7 := Lib.hid (R7.out.turn tt)
        have X2 := Lib.hid oo
        clear X C AP oo tt x0 x1 x2 x3 x4
        have x0 := K.out.box.x0
        have x1 := K.out.box.x1
        have x2 := K.out.box.x2
        have x3 := K.out.box.x3
        have x4 := K.out.box.x4
        go_wp2_with fail
        refine (oadd r C2.out (by omega)).mono ?_
        rintro e V4 ⟨rfl, G2, oo, tt⟩
        have X3 := Lib.hid (AP2.out.symm.keepG tt X2.out C2.out)
        replace K := Lib.hid (K.out.other KG.out tt)
        replace R7 := Lib.hid (R7.out.other RG.out tt)
        have C3 := Lib.hid oo
        have hL2 := Nat.le_trans (addU_len L r) (Nat.succ_le_succ hL)
        have HG0 := Lib.hid (fun h => (add_same (L := L) (r := r) h))
        have HG1 := Lib.hid (fun h => (add_twice (L := L) (r := r) HGL.out h))
        have HG2 := Lib.hid (fun h => (add_len (L := L) (r := r) h))
        clear X2 C2 AP2 oo tt x0 x1 x2 x3 x4
        generalize addU L r = M at *
        generalize addE L r = ee at *
        go_wp2_with fail
        refine (oall X3.out (by omega)).mono ?_
        rintro e V5 ⟨v62, rfl, r62', br⟩
        have R62 := Lib.hid r62'
        replace X3 := Lib.hid (X3.out.keep br)
        replace C3 := Lib.hid (C3.out.keep br)
        replace K := Lib.hid (K.out.keep br)
        replace R7 := Lib.hid (R7.out.keep br)
        clear br r62'
        go_wp2_with fail
        refine (plainO R62.out (by omega)).mono ?_
        rintro e V6 ⟨v63, rfl, r63', br⟩
        have R63 := Lib.hid r63'
        replace X3 := Lib.hid (X3.out.keep br)
        replace C3 := Lib.hid (C3.out.keep br)
        replace K := Lib.hid (K.out.keep br)
        replace R7 := Lib.hid (R7.out.keep br)
        clear br r63' R62
        go_wp2_with fail
        refine (oall C3.out (by omega)).mono ?_
        rintro e V7 ⟨v65, rfl, r65', br⟩
        have R65 := Lib.hid r65'
        replace X3 := Lib.hid (X3.out.keep br)
        replace R63 := Lib.hid (R63.out.keep br)
        replace K := Lib.hid (K.out.keep br)
        replace R7 := Lib.hid (R7.out.keep br)
        clear br r65' C3
        go_wp2_with fail
        refine (plainO R65.out (by omega)).mono ?_
        rintro e V8 ⟨v66, rfl, r66', br⟩
        have R66 := Lib.hid r66'
        replace X3 := Lib.hid (X3.out.keep br)
        replace R63 := Lib.hid (R63.out.keep br)
        replace K := Lib.hid (K.out.keep br)
        replace R7 := Lib.hid (R7.out.keep br)
        clear br r66' R65
        go_wp2_with fail
        have C := sameO R63.out R66.out
        rw [show decide (M = M) = true from decide_eq_true rfl] at C
        refine C.mono ?_
        clear C
        rintro e V9 ⟨rfl, br⟩
        replace X3 := Lib.hid (X3.out.keep br)
        replace K := Lib.hid (K.out.keep br)
        replace R7 := Lib.hid (R7.out.keep br)
        clear br R63 R66
        have x0 := K.out.box.x0
        have x1 := K.out.box.x1
        have x2 := K.out.box.x2
        have x3 := K.out.box.x3
        have x4 := K.out.box.x4
        by_cases he : ee = 0
        · subst he
          have e6 := HG1.out rfl
          have el := HG2.out rfl
          have C := oadd r X3.out (by omega)
          rw [e6, addU_no (by rw [e6]; decide)] at C
          have HC := Lib.hid C
          have HEL := Lib.hid el
          clear C e6 el HG0 HG1 HG2
          go_wp2_with fail
          refine HC.out.mono ?_
          rintro e V10 ⟨rfl, F3, oo, tt⟩
          replace R7 := Lib.hid (R7.out.turn tt)
          replace X3 := Lib.hid oo
          clear HC oo tt x0 x1 x2 x3 x4 K
          go_wp2_with fail
          refine (oall X3.out (by omega)).mono ?_
          rintro e V11 ⟨v94, rfl, r94, br⟩
          replace X3 := Lib.hid (X3.out.keep br)
          obtain ⟨a94, c94, e94, _, _⟩ := r94.shape
          obtain ⟨a7, c7, e7, _, _⟩ := R7.out.row.shape
          rw [HEL.out] at e94
          subst e94 e7
          clear R7 r94 br
          generalize L.length = m at *
          have hm1 : ((m + 1 : Nat) : Int) = (m : Int) + 1 := by omega
          go_wp2_with fail
          refine (known11_any _).mono ?_
          rintro e V12 ⟨rfl, br⟩
          replace X3 := Lib.hid (X3.out.keep br)
          go_wp2
          go_ret
          exact ⟨rfl, X3.out.bel⟩
        · obtain ⟨e1, e2⟩ := HG0.out he
          subst e2
          have C := oadd r X3.out (by omega)
          rw [addU_no (by rw [e1]; exact he), e1] at C
          have HC := Lib.hid C
          have hee : (ee == ee) = true := by simp
          clear C e1 HG0 HG1 HG2
          go_wp2_with fail
          refine HC.out.mono ?_
          rintro e V10 ⟨rfl, F3, oo, tt⟩
          replace R7 := Lib.hid (R7.out.turn tt)
          replace X3 := Lib.hid oo
          clear HC oo tt x0 x1 x2 x3 x4 K
          go_wp2_with fail
          refine (oall X3.out (by omega)).mono ?_
          rintro e V11 ⟨v79, rfl, r79', br⟩
          have R79 := Lib.hid r79'
          replace X3 := Lib.hid (X3.out.keep br)
          replace R7 := Lib.hid (R7.out.keep br)
          clear br r79'
          go_wp2_with fail
          refine (plainO R79.out (by omega)).mono ?_
          rintro e V12 ⟨v80, rfl, r80', br⟩
          have R80 := Lib.hid r80'
          replace X3 := Lib.hid (X3.out.keep br)
          replace R7 := Lib.hid (R7.out.keep br)
          clear br r80' R79
          go_wp2_with fail
          refine (plainO R7.out.row (by omega)).mono ?_
          rintro e V13 ⟨v82, rfl, r82', br⟩
          have R82 := Lib.hid r82'
          replace X3 := Lib.hid (X3.out.keep br)
          replace R80 := Lib.hid (R80.out.keep br)
          clear br r82' R7
          go_wp2_with fail
          have C := sameO R80.out R82.out
          rw [show decide (M = M) = true from decide_eq_true rfl] at C
          refine C.mono ?_
          clear C
          rintro e V14 ⟨rfl, br⟩
          replace X3 := Lib.hid (X3.out.keep br)
          clear br R80 R82
          go_wp2_with fail
          refine (known11_any _).mono ?_
          rintro e V15 ⟨rfl, br⟩
          replace X3 := Lib.hid (X3.out.keep br)
          go_wp2
          go_ret
          exact ⟨rfl, X3.out.bel⟩

  · rw [decide_eq_false hlr] at C
    clear hlr
    refine C.mono ?_
    clear C
    rintro e W3 ⟨rfl, br⟩
    replace X := Lib.hid (X.out.keep br)
    clear br x0 x1 x2 x3 x4
    go_wp2_with fail
    refine (known11_any _).mono ?_
    rintro e W4 ⟨rfl, br⟩
    replace X := Lib.hid (X.out.keep br)
    go_wp2
    go_ret
    exact ⟨rfl, X.out.bel⟩

set_option maxRecDepth 100000 in
theorem lifted (os : Os) (started : os.Started) (H : Type) (enc : TypeId × Value → H) :
    ReturnsInHanded {} Try.checked os 8 .any (Rows.graphRefusesSpec.pre6 enc Try.prog Try.f8 Rows.graphRefusesRow.domain false) (Rows.graphRefusesSpec.post enc Try.prog Try.f8 false true false false) := by
  refine returnsInHanded_of_change (C := Try.checked) own started (by kernel_rfl) Try.func8
    (ChangeSpec.witness6 (enc := enc) (C := Try.checked) false ⟨#[], #[.slice none 0 0, .agg #[.string ByteArray.empty, .string ByteArray.empty, .int .i64 0, .int .i64 0, .int .i64 0]], []⟩ 8 (by kernel_rfl) (by kernel_rfl) (by kernel_rfl) (by kernel_rfl)) ?_
  intro W base args ds gs before hval0 hW hcnd _
  have hval : ∀ (j : Nat) t v, Try.f8.params[j]? = some t → args[j]? = some v → Value.okWide Try.prog W .any base t v := hval0
  have hW' := hW
  obtain ⟨p, q, hA0, hV, rfl, hfz, hnd⟩ := hW
  have hA : DataW.TrodAll enc Try.prog W 0 (fun _ => true) true Try.f8.params.toList args.toList ds p := hA0
  rw [Try.params8] at hA hval
  obtain ⟨v0, vs0, d0, ds0, p0, q0, hargs, rfl, rfl, h0, r0⟩ := trodAll_cons hA
  obtain ⟨v1, vs1, d1, ds1, p1, q1, rfl, rfl, rfl, h1, r1⟩ := trodAll_cons r0
  obtain ⟨rfl, rfl, rfl⟩ := trodAll_nil r1
  obtain rfl : args = #[v0, v1] := by cases args; simp_all
  obtain ⟨rfl, rfl⟩ := trodVars_none hV
  obtain ⟨a0, len0, cap0, rfl⟩ := okWide_slice Try.underlying22 (hval 0 22 v0 rfl rfl)
  have k0 := h0
  have lt0 : ∀ x ∈ p0, x.block < W.heap.size := by obtain ⟨m, hm⟩ := k0; exact DataW.trod_lt m _ _ _ hm
  obtain ⟨z0, w0⟩ := open_ops11 h0
  have k1 := h1
  have lt1 : ∀ x ∈ p1, x.block < W.heap.size := by obtain ⟨m, hm⟩ := k1; exact DataW.trod_lt m _ _ _ hm
  obtain ⟨a1, rfl, w1⟩ := open_ru11 (hval 1 31 v1 rfl rfl) h1
  clear hA0 hval0
  refine (walk a0 len0 cap0 z0 a1 W w0 w1).mono fun e W' ⟨he, bel⟩ => ?_
  subst he
  exact ⟨_, rfl, _, _, _, [], _, [], hW', trodAll_mk1 (shut_bool Try.underlying4 _), (trodAll_cons_mk (Below.trod laidOut (by kernel_rfl) (of_decide_eq_true (by kernel_rfl)) k0 bel lt0) (trodAll_cons_mk (Below.trod laidOut (by kernel_rfl) (of_decide_eq_true (by kernel_rfl)) k1 bel lt1) trodAll_mk0)), rfl, bel.frame _, fun h => by cases h⟩

theorem over : Rows.graphRefusesRow.holds Try.pinned (OpenSpec.ofChange Rows.graphRefusesSpec) :=
  OpenClaim.holds_of_wide 8 Try.f8 rfl rfl rfl rfl rfl rfl rfl ⟨rfl, rfl, rfl, rfl, rfl⟩ rfl rfl rfl rfl rfl (by kernel_rfl) Try.func8 (by kernel_rfl)
    (of_decide_eq_true (by kernel_rfl)) (by unfold Func.isWrapper; first | (rw [if_pos (by decide +kernel)]; kernel_rfl) | (rw [if_neg (by decide +kernel)]; exact ⟨rfl, rfl⟩))
    (fun os started H enc _ => lifted os started H enc)

theorem proved : Rows.GraphRefusesSaid := over
end graphRefuses
theorem graphRefuses_holds : Rows.GraphRefusesSaid := graphRefuses.proved
#print axioms graphRefuses_holds
end Go.Proofs.Ytlogkhifgkkjeaa
