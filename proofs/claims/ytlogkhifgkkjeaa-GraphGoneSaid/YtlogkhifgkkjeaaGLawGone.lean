/-
  The statement 'GraphGone' of layer 11: a rule that is added is there, and dropped it is there no more; behind Gone no rule has the key.
  No condition on the arguments.
-/
import Derived.Test.YtlogkhifgkkjeaaGKnown
import Derived.Test.YtlogkhifgkkjeaaGArgs
import Derived.Test.YtlogkhifgkkjeaaRows
import Derived.Test.YtlogkhifgkkjeaaGUse
import Derived.ChangeOld
namespace Go.Proofs.Ytlogkhifgkkjeaa
namespace graphGone
open Go.ChangeShapes Go.WideShapes Go.ChangeAt Go.RowKit
open Go.ChangeMaps (open_string shut_string)
set_option linter.unusedVariables false
set_option linter.unusedSimpArgs false

theorem own : ownKnob Try.prog.godebug = none := by kernel_rfl

set_option maxRecDepth 100000 in
set_option maxHeartbeats 16000000 in
theorem walk (a : Option Addr) (n c : Nat) (z : List OpG) (r : Ru) (kb : ByteArray) (w : World) (h : OpAt w a n c z) (_ : True) (hkb : kb.size ≤ maxLen) :
    Calls Try.prog 5 #[.slice a n c, ruV r, .string kb] w fun e w' => e = .returned (.bool true) ∧ Below w.heap.size w w' := by
  obtain ⟨kt, rfl⟩ : ∃ kt, kb = bs kt := ⟨tx kb, (bs_tx _).symm⟩
  have HOp := Lib.hid h
  unfold ruV
  have B1 := Lib.hid ((Below.refl w.heap.size w).alloc (Nat.le_refl _) (.cells #[.string (bs r.src), .string (bs r.dst), .int .i64 r.kind, .int .i64 r.size, .int .i64 r.align] 31))
  have K1 := Lib.hid (BoxU.new 31 w r)
  clear h
  go_enter Try.func5, Try.ntmps5
  go_wp2_with fail
  have hs := B1.out.size
  generalize w.alloc (.cells #[.string (bs r.src), .string (bs r.dst), .int .i64 r.kind, .int .i64 r.size, .int .i64 r.align] 31) = W1 at *
  refine (gnew_any _).mono ?_
  rintro e W2 ⟨x, bi, bf, F0, rfl, hg, hb, hx, hF⟩
  have X : Hid (GOwn w.heap.size w W2 x bi bf F0 []) := Lib.hid (GOwn.new B1.out hs hg hb hx hF)
  have K : Hid (BoxO 31 F0 W2 w.heap.size r) := Lib.hid ⟨K1.out.keep hb, fun f => by have h1 := K1.out.lt; have h2 := hF _ f; omega⟩
  clear hg hb hx hF K1 B1 hs
  revert K
  generalize hBp : w.heap.size = Bp
  intro K
  have HBp := Lib.hid hBp
  clear hBp
  have x0 := K.out.box.x0
  have x1 := K.out.box.x1
  have x2 := K.out.box.x2
  have x3 := K.out.box.x3
  have x4 := K.out.box.x4
  go_wp2_with fail
  have C := olight r W2
  by_cases hlr : lightU r
  · rw [decide_eq_true hlr] at C
    clear hlr
    by_cases hk : (bs kt).size ≤ 100
    · have hkz : ¬ ((bs kt).size : Int) > 100 := by omega
      refine C.mono ?_
      clear C
      rintro e W3 ⟨rfl, br⟩
      replace X := Lib.hid (X.out.keep br)
      replace K := Lib.hid (K.out.keep br)
      clear br x0 x1 x2 x3 x4
      go_wp2
      go_loopw [8] (fun i wr => ∃ (j : Nat) (F : Nat → Prop) (L : List Ru), j ≤ 40 ∧ i = .int .i64 (j : Int) ∧ Hid (GOwn w.heap.size w wr x bi bf F L) ∧ Hid (L.length ≤ j) ∧ Hid (BoxO 31 F wr Bp r)) (fun i _ => 40 - (intOf i).toNat)
      case atStart => exact ⟨0, F0, [], by omega, rfl, X, Lib.hid (Nat.le_refl _), K⟩
      case round =>
        obtain ⟨j, F, L, hj, rfl, X, HL, K⟩ := hrel
        have hl := HL.out
        have hj0 : (0 : Int) ≤ (j : Int) := by omega
        by_cases hjn : j < n
        · have hjz : (j : Int) < (n : Int) := by omega
          by_cases h40 : j < 40
          · have h40z : (j : Int) < 40 := by omega
            obtain ⟨b, off, rfl, hb, k0, x0, x1, x2, x3, x4⟩ := (HOp.out.keep X.out.bel).at_ j hjn
            have HAT := Lib.hid (fun W (hW : Below w.heap.size w W) => (HOp.out.keep hW).at_ j hjn)
            have HLI := Lib.hid (fun W => olight (opG z j).r W)
            generalize (opG z j).r = q at *
            unfold ruV at HLI
            by_cases hq : lightU q
            · rw [decide_eq_true hq] at HLI
              clear hq
              go_wp2_with fail
              refine (HLI.out _).mono ?_
              rintro e V1 ⟨rfl, br⟩
              have X2 := Lib.hid (X.out.keep br)
              have K2 := Lib.hid (K.out.keep br)
              clear x0 x1 x2 x3 x4 k0
              obtain ⟨b2, off2, e2, hb2, k0, x0, x1, x2, x3, x4⟩ := HAT.out V1 X2.out.bel
              cases e2
              clear br HAT HLI
              go_wp2_with fail
              refine (oadd q X2.out (by omega)).mono ?_
              rintro e V2 ⟨rfl, F2, oo, tt⟩
              have K3 := Lib.hid (K2.out.turn tt)
              have hl2 := Nat.le_trans (addU_len L q) (Nat.succ_le_succ hl)
              have OO := Lib.hid oo
              clear x0 x1 x2 x3 x4 k0 oo tt
              go_wp2
              go_roundw
              case rel => exact ⟨j + 1, F2, addU L q, by omega, by go_num, OO, Lib.hid hl2, K3⟩
              case measure => simp [intOf]; omega
            · rw [decide_eq_false hq] at HLI
              clear hq
              go_wp2_with fail
              refine (HLI.out _).mono ?_
              rintro e V1 ⟨rfl, br⟩
              have X2 := Lib.hid (X.out.keep br)
              have K2 := Lib.hid (K.out.keep br)
              clear x0 x1 x2 x3 x4 k0 br HAT HLI
              go_wp2
              go_roundw
              case rel => exact ⟨j + 1, F, L, by omega, by go_num, X2, Lib.hid (by omega), K2⟩
              case measure => simp [intOf]; omega
          · have h40z : ¬ (j : Int) < 40 := by omega
            have hL : L.length ≤ 40 := by omega
            have HGL := Lib.hid X.out.gr.good
            go_wp2_with fail
            refine (oall X.out (by omega)).mono ?_
            rintro e V1 ⟨v9, rfl, rr, br⟩
            have R9 := Lib.hid (RowO.new X.out.gr rr)
            clear rr
            replace X := Lib.hid (X.out.keep br)
            replace K := Lib.hid (K.out.keep br)
            clear br
            have x0 := K.out.box.x0
            have x1 := K.out.box.x1
            have x2 := K.out.box.x2
            have x3 := K.out.box.x3
            have x4 := K.out.box.x4
            go_wp2_with fail
            by_cases he : addE L r = 0
            · obtain ⟨d1, d2, d3, d4⟩ := add_drop HGL.out he
              have HD := Lib.hid (show dropE (addU L r) r.src r.dst = 0 ∧ dropR (addU L r) r.src r.dst = r ∧ dropU (addU L r) r.src r.dst = L ∧ intoL (addU L r) r.dst = some r from ⟨d1, d2, d3, d4⟩)
              clear d1 d2 d3 d4
              have C := oadd r X.out (by omega)
              rw [he] at C
              have HC := Lib.hid C
              have hL2 := Nat.le_trans (addU_len L r) (Nat.succ_le_succ hL)
              clear C he
              generalize addU L r = M at *
              refine HC.out.mono ?_
              clear HC
              rintro e V2 ⟨rfl, F2, oo, tt⟩
              replace K := Lib.hid (K.out.turn tt)
              replace R9 := Lib.hid (R9.out.turn tt)
              replace X := Lib.hid oo
              clear oo tt x0 x1 x2 x3 x4
              have x0 := K.out.box.x0
              have x1 := K.out.box.x1
              have x2 := K.out.box.x2
              have x3 := K.out.box.x3
              have x4 := K.out.box.x4
              go_wp2_with fail
              have C := ointo r.dst X.out
              rw [HD.out.2.2.2] at C
              have HC := Lib.hid C
              clear C
              refine HC.out.mono ?_
              rintro e V3 ⟨rfl, br⟩
              replace X := Lib.hid (X.out.keep br)
              replace K := Lib.hid (K.out.keep br)
              replace R9 := Lib.hid (R9.out.keep br)
              clear br HC x0 x1 x2 x3 x4
              simp only [Option.getD_some, Option.isSome_some]
              unfold ruV
              have br := (Below.refl V3.heap.size V3).alloc (Nat.le_refl _) (.cells #[.string (bs r.src), .string (bs r.dst), .int .i64 r.kind, .int .i64 r.size, .int .i64 r.align] 31)
              have K11 := Lib.hid (BoxO.new 31 X.out.gr r)
              replace X := Lib.hid (X.out.keep br)
              replace K := Lib.hid (K.out.keep br)
              replace R9 := Lib.hid (R9.out.keep br)
              clear br
              have x0 := K.out.box.x0
              have x1 := K.out.box.x1
              have x2 := K.out.box.x2
              have x3 := K.out.box.x3
              have x4 := K.out.box.x4
              go_wp2_with fail
              clear x0 x1 x2 x3 x4
              generalize hW4 : V3.alloc (.cells #[.string (bs r.src), .string (bs r.dst), .int .i64 r.kind, .int .i64 r.size, .int .i64 r.align] 31) = V4 at *
              clear hW4
              generalize V3.heap.size = B11 at *
              have C := odrop r.src r.dst X.out (by omega)
              rw [HD.out.1, HD.out.2.1, HD.out.2.2.1] at C
              have HC := Lib.hid C
              clear C
              refine HC.out.mono ?_
              rintro e V5 ⟨rfl, F3, oo, tt⟩
              replace K := Lib.hid (K.out.turn tt)
              replace K11 := Lib.hid (K11.out.turn tt)
              replace R9 := Lib.hid (R9.out.turn tt)
              replace X := Lib.hid oo
              clear oo tt HC HD
              unfold ruV
              have br := (Below.refl V5.heap.size V5).alloc (Nat.le_refl _) (.cells #[.string (bs r.src), .string (bs r.dst), .int .i64 r.kind, .int .i64 r.size, .int .i64 r.align] 31)
              have K13 := Lib.hid (BoxO.new 31 X.out.gr r)
              replace X := Lib.hid (X.out.keep br)
              replace K := Lib.hid (K.out.keep br)
              replace R9 := Lib.hid (R9.out.keep br)
              replace K11 := Lib.hid (K11.out.keep br)
              clear br
              have x0 := K.out.box.x0
              have x1 := K.out.box.x1
              have x2 := K.out.box.x2
              have x3 := K.out.box.x3
              have x4 := K.out.box.x4
              have y0 := K11.out.box.x0
              have y1 := K11.out.box.x1
              have y2 := K11.out.box.x2
              have y3 := K11.out.box.x3
              have y4 := K11.out.box.x4
              have z0 := K13.out.box.x0
              have z1 := K13.out.box.x1
              have z2 := K13.out.box.x2
              have z3 := K13.out.box.x3
              have z4 := K13.out.box.x4
              have hne : ∀ W, (binOp .neq 31 (ruV r) (ruV r)).run Try.prog W = .ok (.bool false) W := fun W => by rw [run_ne_gu, decide_eq_true rfl]; rfl
              unfold ruV at hne
              go_wp2_with fail
              clear x0 x1 x2 x3 x4 y0 y1 y2 y3 y4 z0 z1 z2 z3 z4 hne K K11 K13
              generalize hW6 : V5.alloc (.cells #[.string (bs r.src), .string (bs r.dst), .int .i64 r.kind, .int .i64 r.size, .int .i64 r.align] 31) = V6 at *
              clear hW6
              refine (oall X.out (by omega)).mono ?_
              rintro e V11 ⟨v100, rfl, r100', br⟩
              have R100 := Lib.hid r100'
              replace X := Lib.hid (X.out.keep br)
              replace R9 := Lib.hid (R9.out.keep br)
              clear br r100'
              go_wp2_with fail
              refine (plainO R100.out (by omega)).mono ?_
              rintro e V12 ⟨v101, rfl, r101', br⟩
              have R101 := Lib.hid r101'
              replace X := Lib.hid (X.out.keep br)
              replace R9 := Lib.hid (R9.out.keep br)
              clear br r101' R100
              go_wp2_with fail
              refine (plainO R9.out.row (by omega)).mono ?_
              rintro e V13 ⟨v103, rfl, r103', br⟩
              have R103 := Lib.hid r103'
              replace X := Lib.hid (X.out.keep br)
              replace R9 := Lib.hid (R9.out.keep br)
              replace R101 := Lib.hid (R101.out.keep br)
              clear br r103'
              go_wp2_with fail
              have C := sameO R101.out R103.out
              rw [show decide (L = L) = true from decide_eq_true rfl] at C
              refine C.mono ?_
              clear C
              rintro e V14 ⟨rfl, br⟩
              replace X := Lib.hid (X.out.keep br)
              replace R9 := Lib.hid (R9.out.keep br)
              clear br R101 R103
              go_wp2_with fail
              refine (ogone kt X.out (by omega)).mono ?_
              rintro e V15 ⟨rfl, F5, oo, tt⟩
              replace R9 := Lib.hid (R9.out.turn tt)
              replace X := Lib.hid oo
              clear oo tt
              have hgl := goneL_le L kt
              have HS := Lib.hid (gone_sum L kt)
              go_wp2_with fail
              refine (oall X.out (by omega)).mono ?_
              rintro e V16 ⟨v16, rfl, r16', br⟩
              have R16 := Lib.hid r16'
              replace X := Lib.hid (X.out.keep br)
              replace R9 := Lib.hid (R9.out.keep br)
              clear br r16'
              go_wp2_with fail
              have C := ointo kt X.out
              rw [gone_into] at C
              have HC := Lib.hid C
              clear C
              refine HC.out.mono ?_
              rintro e V17 ⟨rfl, br⟩
              replace X := Lib.hid (X.out.keep br)
              replace R9 := Lib.hid (R9.out.keep br)
              replace R16 := Lib.hid (R16.out.keep br)
              clear br HC
              unfold ruV
              have br := (Below.refl V17.heap.size V17).alloc (Nat.le_refl _) (.cells #[.string (bs zeroU.src), .string (bs zeroU.dst), .int .i64 zeroU.kind, .int .i64 zeroU.size, .int .i64 zeroU.align] 31)
              replace X := Lib.hid (X.out.keep br)
              replace R9 := Lib.hid (R9.out.keep br)
              replace R16 := Lib.hid (R16.out.keep br)
              clear br
              obtain ⟨a9, c9, e9, _, _⟩ := R9.out.row.shape
              obtain ⟨a16, c16, e16, _, _⟩ := R16.out.shape
              subst e9 e16
              clear R9 R16
              have HG1 := Lib.hid (gone_of L kt)
              have HG2 := Lib.hid (gone_again0 L kt)
              generalize goneL L kt = M at *
              generalize goneN L kt = g at *
              have hs := HS.out
              have hgg : M.length + g ≤ 40 := by rw [← hs]; exact hL
              rw [hs]
              clear HS hs
              have hm : M.length ≤ 40 := by omega
              have hML := Lib.hid hm
              clear hgl
              generalize M.length = m at hm hgg ⊢
              have hmg : ((m + g : Nat) : Int) = (m : Int) + (g : Int) := by omega
              go_wp2_with fail
              generalize V17.alloc (.cells #[.string (bs zeroU.src), .string (bs zeroU.dst), .int .i64 zeroU.kind, .int .i64 zeroU.size, .int .i64 zeroU.align] 31) = V18 at *
              have C := oof kt X.out (Nat.le_trans hML.out (by decide))
              rw [HG1.out] at C
              have HC := Lib.hid C
              clear C
              refine HC.out.mono ?_
              rintro e V19 ⟨v131, rfl, r131, br⟩
              obtain ⟨a131, c131, e131, _, _⟩ := r131.shape
              replace e131 : v131 = .slice a131 0 c131 := e131
              subst e131
              replace X := Lib.hid (X.out.keep br)
              clear br r131 HC
              go_wp2_with fail
              have C := ogone kt X.out (Nat.le_trans hML.out (by decide))
              rw [HG2.out] at C
              have HC := Lib.hid C
              clear C
              refine HC.out.mono ?_
              rintro e V20 ⟨rfl, F6, oo, tt⟩
              replace X := Lib.hid oo
              clear oo tt HC
              go_wp2_with fail
              refine (known11_any _).mono ?_
              rintro e V21 ⟨rfl, br⟩
              replace X := Lib.hid (X.out.keep br)
              go_wp2
              go_ret
              exact ⟨rfl, X.out.bel⟩

            · have C := oadd r X.out (by omega)
              rw [addU_no he] at C
              have HC := Lib.hid C
              clear C
              generalize addE L r = ee at *
              refine HC.out.mono ?_
              clear HC
              rintro e V2 ⟨rfl, F2, oo, tt⟩
              replace R9 := Lib.hid (R9.out.turn tt)
              replace X := Lib.hid oo
              clear oo tt x0 x1 x2 x3 x4 K
              go_wp2_with fail
              refine (oall X.out (by omega)).mono ?_
              rintro e V11 ⟨v100, rfl, r100', br⟩
              have R100 := Lib.hid r100'
              replace X := Lib.hid (X.out.keep br)
              replace R9 := Lib.hid (R9.out.keep br)
              clear br r100'
              go_wp2_with fail
              refine (plainO R100.out (by omega)).mono ?_
              rintro e V12 ⟨v101, rfl, r101', br⟩
              have R101 := Lib.hid r101'
              replace X := Lib.hid (X.out.keep br)
              replace R9 := Lib.hid (R9.out.keep br)
              clear br r101' R100
              go_wp2_with fail
              refine (plainO R9.out.row (by omega)).mono ?_
              rintro e V13 ⟨v103, rfl, r103', br⟩
              have R103 := Lib.hid r103'
              replace X := Lib.hid (X.out.keep br)
              replace R9 := Lib.hid (R9.out.keep br)
              replace R101 := Lib.hid (R101.out.keep br)
              clear br r103'
              go_wp2_with fail
              have C := sameO R101.out R103.out
              rw [show decide (L = L) = true from decide_eq_true rfl] at C
              refine C.mono ?_
              clear C
              rintro e V14 ⟨rfl, br⟩
              replace X := Lib.hid (X.out.keep br)
              replace R9 := Lib.hid (R9.out.keep br)
              clear br R101 R103
              go_wp2_with fail
              refine (ogone kt X.out (by omega)).mono ?_
              rintro e V15 ⟨rfl, F5, oo, tt⟩
              replace R9 := Lib.hid (R9.out.turn tt)
              replace X := Lib.hid oo
              clear oo tt
              have hgl := goneL_le L kt
              have HS := Lib.hid (gone_sum L kt)
              go_wp2_with fail
              refine (oall X.out (by omega)).mono ?_
              rintro e V16 ⟨v16, rfl, r16', br⟩
              have R16 := Lib.hid r16'
              replace X := Lib.hid (X.out.keep br)
              replace R9 := Lib.hid (R9.out.keep br)
              clear br r16'
              go_wp2_with fail
              have C := ointo kt X.out
              rw [gone_into] at C
              have HC := Lib.hid C
              clear C
              refine HC.out.mono ?_
              rintro e V17 ⟨rfl, br⟩
              replace X := Lib.hid (X.out.keep br)
              replace R9 := Lib.hid (R9.out.keep br)
              replace R16 := Lib.hid (R16.out.keep br)
              clear br HC
              unfold ruV
              have br := (Below.refl V17.heap.size V17).alloc (Nat.le_refl _) (.cells #[.string (bs zeroU.src), .string (bs zeroU.dst), .int .i64 zeroU.kind, .int .i64 zeroU.size, .int .i64 zeroU.align] 31)
              replace X := Lib.hid (X.out.keep br)
              replace R9 := Lib.hid (R9.out.keep br)
              replace R16 := Lib.hid (R16.out.keep br)
              clear br
              obtain ⟨a9, c9, e9, _, _⟩ := R9.out.row.shape
              obtain ⟨a16, c16, e16, _, _⟩ := R16.out.shape
              subst e9 e16
              clear R9 R16
              have HG1 := Lib.hid (gone_of L kt)
              have HG2 := Lib.hid (gone_again0 L kt)
              generalize goneL L kt = M at *
              generalize goneN L kt = g at *
              have hs := HS.out
              have hgg : M.length + g ≤ 40 := by rw [← hs]; exact hL
              rw [hs]
              clear HS hs
              have hm : M.length ≤ 40 := by omega
              have hML := Lib.hid hm
              clear hgl
              generalize M.length = m at hm hgg ⊢
              have hmg : ((m + g : Nat) : Int) = (m : Int) + (g : Int) := by omega
              go_wp2_with fail
              generalize V17.alloc (.cells #[.string (bs zeroU.src), .string (bs zeroU.dst), .int .i64 zeroU.kind, .int .i64 zeroU.size, .int .i64 zeroU.align] 31) = V18 at *
              have C := oof kt X.out (Nat.le_trans hML.out (by decide))
              rw [HG1.out] at C
              have HC := Lib.hid C
              clear C
              refine HC.out.mono ?_
              rintro e V19 ⟨v131, rfl, r131, br⟩
              obtain ⟨a131, c131, e131, _, _⟩ := r131.shape
              replace e131 : v131 = .slice a131 0 c131 := e131
              subst e131
              replace X := Lib.hid (X.out.keep br)
              clear br r131 HC
              go_wp2_with fail
              have C := ogone kt X.out (Nat.le_trans hML.out (by decide))
              rw [HG2.out] at C
              have HC := Lib.hid C
              clear C
              refine HC.out.mono ?_
              rintro e V20 ⟨rfl, F6, oo, tt⟩
              replace X := Lib.hid oo
              clear oo tt HC
              go_wp2_with fail
              refine (known11_any _).mono ?_
              rintro e V21 ⟨rfl, br⟩
              replace X := Lib.hid (X.out.keep br)
              go_wp2
              go_ret
              exact ⟨rfl, X.out.bel⟩
        · have hjz : ¬ (j : Int) < (n : Int) := by omega
          have hL : L.length ≤ 40 := by omega
          have HGL := Lib.hid X.out.gr.good
          go_wp2_with fail
          refine (oall X.out (by omega)).mono ?_
          rintro e V1 ⟨v9, rfl, rr, br⟩
          have R9 := Lib.hid (RowO.new X.out.gr rr)
          clear rr
          replace X := Lib.hid (X.out.keep br)
          replace K := Lib.hid (K.out.keep br)
          clear br
          have x0 := K.out.box.x0
          have x1 := K.out.box.x1
          have x2 := K.out.box.x2
          have x3 := K.out.box.x3
          have x4 := K.out.box.x4
          go_wp2_with fail
          by_cases he : addE L r = 0
          · obtain ⟨d1, d2, d3, d4⟩ := add_drop HGL.out he
            have HD := Lib.hid (show dropE (addU L r) r.src r.dst = 0 ∧ dropR (addU L r) r.src r.dst = r ∧ dropU (addU L r) r.src r.dst = L ∧ intoL (addU L r) r.dst = some r from ⟨d1, d2, d3, d4⟩)
            clear d1 d2 d3 d4
            have C := oadd r X.out (by omega)
            rw [he] at C
            have HC := Lib.hid C
            have hL2 := Nat.le_trans (addU_len L r) (Nat.succ_le_succ hL)
            clear C he
            generalize addU L r = M at *
            refine HC.out.mono ?_
            clear HC
            rintro e V2 ⟨rfl, F2, oo, tt⟩
            replace K := Lib.hid (K.out.turn tt)
            replace R9 := Lib.hid (R9.out.turn tt)
            replace X := Lib.hid oo
            clear oo tt x0 x1 x2 x3 x4
            have x0 := K.out.box.x0
            have x1 := K.out.box.x1
            have x2 := K.out.box.x2
            have x3 := K.out.box.x3
            have x4 := K.out.box.x4
            go_wp2_with fail
            have C := ointo r.dst X.out
            rw [HD.out.2.2.2] at C
            have HC := Lib.hid C
            clear C
            refine HC.out.mono ?_
            rintro e V3 ⟨rfl, br⟩
            replace X := Lib.hid (X.out.keep br)
            replace K := Lib.hid (K.out.keep br)
            replace R9 := Lib.hid (R9.out.keep br)
            clear br HC x0 x1 x2 x3 x4
            simp only [Option.getD_some, Option.isSome_some]
            unfold ruV
            have br := (Below.refl V3.heap.size V3).alloc (Nat.le_refl _) (.cells #[.string (bs r.src), .string (bs r.dst), .int .i64 r.kind, .int .i64 r.size, .int .i64 r.align] 31)
            have K11 := Lib.hid (BoxO.new 31 X.out.gr r)
            replace X := Lib.hid (X.out.keep br)
            replace K := Lib.hid (K.out.keep br)
            replace R9 := Lib.hid (R9.out.keep br)
            clear br
            have x0 := K.out.box.x0
            have x1 := K.out.box.x1
            have x2 := K.out.box.x2
            have x3 := K.out.box.x3
            have x4 := K.out.box.x4
            go_wp2_with fail
            clear x0 x1 x2 x3 x4
            generalize hW4 : V3.alloc (.cells #[.string (bs r.src), .string (bs r.dst), .int .i64 r.kind, .int .i64 r.size, .int .i64 r.align] 31) = V4 at *
            clear hW4
            generalize V3.heap.size = B11 at *
            have C := odrop r.src r.dst X.out (by omega)
            rw [HD.out.1, HD.out.2.1, HD.out.2.2.1] at C
            have HC := Lib.hid C
            clear C
            refine HC.out.mono ?_
            rintro e V5 ⟨rfl, F3, oo, tt⟩
            replace K := Lib.hid (K.out.turn tt)
            replace K11 := Lib.hid (K11.out.turn tt)
            replace R9 := Lib.hid (R9.out.turn tt)
            replace X := Lib.hid oo
            clear oo tt HC HD
            unfold ruV
            have br := (Below.refl V5.heap.size V5).alloc (Nat.le_refl _) (.cells #[.string (bs r.src), .string (bs r.dst), .int .i64 r.kind, .int .i64 r.size, .int .i64 r.align] 31)
            have K13 := Lib.hid (BoxO.new 31 X.out.gr r)
            replace X := Lib.hid (X.out.keep br)
            replace K := Lib.hid (K.out.keep br)
            replace R9 := Lib.hid (R9.out.keep br)
            replace K11 := Lib.hid (K11.out.keep br)
            clear br
            have x0 := K.out.box.x0
            have x1 := K.out.box.x1
            have x2 := K.out.box.x2
            have x3 := K.out.box.x3
            have x4 := K.out.box.x4
            have y0 := K11.out.box.x0
            have y1 := K11.out.box.x1
            have y2 := K11.out.box.x2
            have y3 := K11.out.box.x3
            have y4 := K11.out.box.x4
            have z0 := K13.out.box.x0
            have z1 := K13.out.box.x1
            have z2 := K13.out.box.x2
            have z3 := K13.out.box.x3
            have z4 := K13.out.box.x4
            have hne : ∀ W, (binOp .neq 31 (ruV r) (ruV r)).run Try.prog W = .ok (.bool false) W := fun W => by rw [run_ne_gu, decide_eq_true rfl]; rfl
            unfold ruV at hne
            go_wp2_with fail
            clear x0 x1 x2 x3 x4 y0 y1 y2 y3 y4 z0 z1 z2 z3 z4 hne K K11 K13
            generalize hW6 : V5.alloc (.cells #[.string (bs r.src), .string (bs r.dst), .int .i64 r.kind, .int .i64 r.size, .int .i64 r.align] 31) = V6 at *
            clear hW6
            refine (oall X.out (by omega)).mono ?_
            rintro e V11 ⟨v100, rfl, r100', br⟩
            have R100 := Lib.hid r100'
            replace X := Lib.hid (X.out.keep br)
            replace R9 := Lib.hid (R9.out.keep br)
            clear br r100'
            go_wp2_with fail
            refine (plainO R100.out (by omega)).mono ?_
            rintro e V12 ⟨v101, rfl, r101', br⟩
            have R101 := Lib.hid r101'
            replace X := Lib.hid (X.out.keep br)
            replace R9 := Lib.hid (R9.out.keep br)
            clear br r101' R100
            go_wp2_with fail
            refine (plainO R9.out.row (by omega)).mono ?_
            rintro e V13 ⟨v103, rfl, r103', br⟩
            have R103 := Lib.hid r103'
            replace X := Lib.hid (X.out.keep br)
            replace R9 := Lib.hid (R9.out.keep br)
            replace R101 := Lib.hid (R101.out.keep br)
            clear br r103'
            go_wp2_with fail
            have C := sameO R101.out R103.out
            rw [show decide (L = L) = true from decide_eq_true rfl] at C
            refine C.mono ?_
            clear C
            rintro e V14 ⟨rfl, br⟩
            replace X := Lib.hid (X.out.keep br)
            replace R9 := Lib.hid (R9.out.keep br)
            clear br R101 R103
            go_wp2_with fail
            refine (ogone kt X.out (by omega)).mono ?_
            rintro e V15 ⟨rfl, F5, oo, tt⟩
            replace R9 := Lib.hid (R9.out.turn tt)
            replace X := Lib.hid oo
            clear oo tt
            have hgl := goneL_le L kt
            have HS := Lib.hid (gone_sum L kt)
            go_wp2_with fail
            refine (oall X.out (by omega)).mono ?_
            rintro e V16 ⟨v16, rfl, r16', br⟩
            have R16 := Lib.hid r16'
            replace X := Lib.hid (X.out.keep br)
            replace R9 := Lib.hid (R9.out.keep br)
            clear br r16'
            go_wp2_with fail
            have C := ointo kt X.out
            rw [gone_into] at C
            have HC := Lib.hid C
            clear C
            refine HC.out.mono ?_
            rintro e V17 ⟨rfl, br⟩
            replace X := Lib.hid (X.out.keep br)
            replace R9 := Lib.hid (R9.out.keep br)
            replace R16 := Lib.hid (R16.out.keep br)
            clear br HC
            unfold ruV
            have br := (Below.refl V17.heap.size V17).alloc (Nat.le_refl _) (.cells #[.string (bs zeroU.src), .string (bs zeroU.dst), .int .i64 zeroU.kind, .int .i64 zeroU.size, .int .i64 zeroU.align] 31)
            replace X := Lib.hid (X.out.keep br)
            replace R9 := Lib.hid (R9.out.keep br)
            replace R16 := Lib.hid (R16.out.keep br)
            clear br
            obtain ⟨a9, c9, e9, _, _⟩ := R9.out.row.shape
            obtain ⟨a16, c16, e16, _, _⟩ := R16.out.shape
            subst e9 e16
            clear R9 R16
            have HG1 := Lib.hid (gone_of L kt)
            have HG2 := Lib.hid (gone_again0 L kt)
            generalize goneL L kt = M at *
            generalize goneN L kt = g at *
            have hs := HS.out
            have hgg : M.length + g ≤ 40 := by rw [← hs]; exact hL
            rw [hs]
            clear HS hs
            have hm : M.length ≤ 40 := by omega
            have hML := Lib.hid hm
            clear hgl
            generalize M.length = m at hm hgg ⊢
            have hmg : ((m + g : Nat) : Int) = (m : Int) + (g : Int) := by omega
            go_wp2_with fail
            generalize V17.alloc (.cells #[.string (bs zeroU.src), .string (bs zeroU.dst), .int .i64 zeroU.kind, .int .i64 zeroU.size, .int .i64 zeroU.align] 31) = V18 at *
            have C := oof kt X.out (Nat.le_trans hML.out (by decide))
            rw [HG1.out] at C
            have HC := Lib.hid C
            clear C
            refine HC.out.mono ?_
            rintro e V19 ⟨v131, rfl, r131, br⟩
            obtain ⟨a131, c131, e131, _, _⟩ := r131.shape
            replace e131 : v131 = .slice a131 0 c131 := e131
            subst e131
            replace X := Lib.hid (X.out.keep br)
            clear br r131 HC
            go_wp2_with fail
            have C := ogone kt X.out (Nat.le_trans hML.out (by decide))
            rw [HG2.out] at C
            have HC := Lib.hid C
            clear C
            refine HC.out.mono ?_
            rintro e V20 ⟨rfl, F6, oo, tt⟩
            replace X := Lib.hid oo
            clear oo tt HC
            go_wp2_with fail
            refine (known11_any _).mono ?_
            rintro e V21 ⟨rfl, br⟩
            replace X := Lib.hid (X.out.keep br)
            go_wp2
            go_ret
            exact ⟨rfl, X.out.bel⟩

          · have C := oadd r X.out (by omega)
            rw [addU_no he] at C
            have HC := Lib.hid C
            clear C
            generalize addE L r = ee at *
            refine HC.out.mono ?_
            clear HC
            rintro e V2 ⟨rfl, F2, oo, tt⟩
            replace R9 := Lib.hid (R9.out.turn tt)
            replace X := Lib.hid oo
            clear oo tt x0 x1 x2 x3 x4 K
            go_wp2_with fail
            refine (oall X.out (by omega)).mono ?_
            rintro e V11 ⟨v100, rfl, r100', br⟩
            have R100 := Lib.hid r100'
            replace X := Lib.hid (X.out.keep br)
            replace R9 := Lib.hid (R9.out.keep br)
            clear br r100'
            go_wp2_with fail
            refine (plainO R100.out (by omega)).mono ?_
            rintro e V12 ⟨v101, rfl, r101', br⟩
            have R101 := Lib.hid r101'
            replace X := Lib.hid (X.out.keep br)
            replace R9 := Lib.hid (R9.out.keep br)
            clear br r101' R100
            go_wp2_with fail
            refine (plainO R9.out.row (by omega)).mono ?_
            rintro e V13 ⟨v103, rfl, r103', br⟩
            have R103 := Lib.hid r103'
            replace X := Lib.hid (X.out.keep br)
            replace R9 := Lib.hid (R9.out.keep br)
            replace R101 := Lib.hid (R101.out.keep br)
            clear br r103'
            go_wp2_with fail
            have C := sameO R101.out R103.out
            rw [show decide (L = L) = true from decide_eq_true rfl] at C
            refine C.mono ?_
            clear C
            rintro e V14 ⟨rfl, br⟩
            replace X := Lib.hid (X.out.keep br)
            replace R9 := Lib.hid (R9.out.keep br)
            clear br R101 R103
            go_wp2_with fail
            refine (ogone kt X.out (by omega)).mono ?_
            rintro e V15 ⟨rfl, F5, oo, tt⟩
            replace R9 := Lib.hid (R9.out.turn tt)
            replace X := Lib.hid oo
            clear oo tt
            have hgl := goneL_le L kt
            have HS := Lib.hid (gone_sum L kt)
            go_wp2_with fail
            refine (oall X.out (by omega)).mono ?_
            rintro e V16 ⟨v16, rfl, r16', br⟩
            have R16 := Lib.hid r16'
            replace X := Lib.hid (X.out.keep br)
            replace R9 := Lib.hid (R9.out.keep br)
            clear br r16'
            go_wp2_with fail
            have C := ointo kt X.out
            rw [gone_into] at C
            have HC := Lib.hid C
            clear C
            refine HC.out.mono ?_
            rintro e V17 ⟨rfl, br⟩
            replace X := Lib.hid (X.out.keep br)
            replace R9 := Lib.hid (R9.out.keep br)
            replace R16 := Lib.hid (R16.out.keep br)
            clear br HC
            unfold ruV
            have br := (Below.refl V17.heap.size V17).alloc (Nat.le_refl _) (.cells #[.string (bs zeroU.src), .string (bs zeroU.dst), .int .i64 zeroU.kind, .int .i64 zeroU.size, .int .i64 zeroU.align] 31)
            replace X := Lib.hid (X.out.keep br)
            replace R9 := Lib.hid (R9.out.keep br)
            replace R16 := Lib.hid (R16.out.keep br)
            clear br
            obtain ⟨a9, c9, e9, _, _⟩ := R9.out.row.shape
            obtain ⟨a16, c16, e16, _, _⟩ := R16.out.shape
            subst e9 e16
            clear R9 R16
            have HG1 := Lib.hid (gone_of L kt)
            have HG2 := Lib.hid (gone_again0 L kt)
            generalize goneL L kt = M at *
            generalize goneN L kt = g at *
            have hs := HS.out
            have hgg : M.length + g ≤ 40 := by rw [← hs]; exact hL
            rw [hs]
            clear HS hs
            have hm : M.length ≤ 40 := by omega
            have hML := Lib.hid hm
            clear hgl
            generalize M.length = m at hm hgg ⊢
            have hmg : ((m + g : Nat) : Int) = (m : Int) + (g : Int) := by omega
            go_wp2_with fail
            generalize V17.alloc (.cells #[.string (bs zeroU.src), .string (bs zeroU.dst), .int .i64 zeroU.kind, .int .i64 zeroU.size, .int .i64 zeroU.align] 31) = V18 at *
            have C := oof kt X.out (Nat.le_trans hML.out (by decide))
            rw [HG1.out] at C
            have HC := Lib.hid C
            clear C
            refine HC.out.mono ?_
            rintro e V19 ⟨v131, rfl, r131, br⟩
            obtain ⟨a131, c131, e131, _, _⟩ := r131.shape
            replace e131 : v131 = .slice a131 0 c131 := e131
            subst e131
            replace X := Lib.hid (X.out.keep br)
            clear br r131 HC
            go_wp2_with fail
            have C := ogone kt X.out (Nat.le_trans hML.out (by decide))
            rw [HG2.out] at C
            have HC := Lib.hid C
            clear C
            refine HC.out.mono ?_
            rintro e V20 ⟨rfl, F6, oo, tt⟩
            replace X := Lib.hid oo
            clear oo tt HC
            go_wp2_with fail
            refine (known11_any _).mono ?_
            rintro e V21 ⟨rfl, br⟩
            replace X := Lib.hid (X.out.keep br)
            go_wp2
            go_ret
            exact ⟨rfl, X.out.bel⟩

    · have hkz : ((bs kt).size : Int) > 100 := by omega
      refine C.mono ?_
      clear C
      rintro e W3 ⟨rfl, br⟩
      replace X := Lib.hid (X.out.keep br)
      clear br x0 x1 x2 x3 x4
      go_wp2_with fail
      refine (known11_any _).mono ?_
      rintro e W4 ⟨rfl, br⟩
      replace X := Lib.hid (X.out.keep br)
      go_wp2
      go_ret
      exact ⟨rfl, X.out.bel⟩
  · rw [decide_eq_false hlr] at C
    clear hlr
    refine C.mono ?_
    clear C
    rintro e W3 ⟨rfl, br⟩
    replace X := Lib.hid (X.out.keep br)
    clear br x0 x1 x2 x3 x4
    go_wp2_with fail
    refine (known11_any _).mono ?_
    rintro e W4 ⟨rfl, br⟩
    replace X := Lib.hid (X.out.keep br)
    go_wp2
    go_ret
    exact ⟨rfl, X.out.bel⟩

set_option maxRecDepth 100000 in
theorem lifted (os : Os) (started : os.Started) (H : Type) (enc : TypeId × Value → H) :
    ReturnsInHanded {} Try.checked os 5 .any (Rows.graphGoneSpec.pre6 enc Try.prog Try.f5 Rows.graphGoneRow.domain false) (Rows.graphGoneSpec.post enc Try.prog Try.f5 false true false false) := by
  refine returnsInHanded_of_change (C := Try.checked) own started (by kernel_rfl) Try.func5
    (ChangeSpec.witness6 (enc := enc) (C := Try.checked) false ⟨#[], #[.slice none 0 0, .agg #[.string ByteArray.empty, .string ByteArray.empty, .int .i64 0, .int .i64 0, .int .i64 0], .string ByteArray.empty], []⟩ 8 (by kernel_rfl) (by kernel_rfl) (by kernel_rfl) (by kernel_rfl)) ?_
  intro W base args ds gs before hval0 hW hcnd _
  have hval : ∀ (j : Nat) t v, Try.f5.params[j]? = some t → args[j]? = some v → Value.okWide Try.prog W .any base t v := hval0
  have hW' := hW
  obtain ⟨p, q, hA0, hV, rfl, hfz, hnd⟩ := hW
  have hA : DataW.TrodAll enc Try.prog W 0 (fun _ => true) true Try.f5.params.toList args.toList ds p := hA0
  rw [Try.params5] at hA hval
  obtain ⟨v0, vs0, d0, ds0, p0, q0, hargs, rfl, rfl, h0, r0⟩ := trodAll_cons hA
  obtain ⟨v1, vs1, d1, ds1, p1, q1, rfl, rfl, rfl, h1, r1⟩ := trodAll_cons r0
  obtain ⟨v2, vs2, d2, ds2, p2, q2, rfl, rfl, rfl, h2, r2⟩ := trodAll_cons r1
  obtain ⟨rfl, rfl, rfl⟩ := trodAll_nil r2
  obtain rfl : args = #[v0, v1, v2] := by cases args; simp_all
  obtain ⟨rfl, rfl⟩ := trodVars_none hV
  obtain ⟨a0, len0, cap0, rfl⟩ := okWide_slice Try.underlying22 (hval 0 22 v0 rfl rfl)
  have k0 := h0
  have lt0 : ∀ x ∈ p0, x.block < W.heap.size := by obtain ⟨m, hm⟩ := k0; exact DataW.trod_lt m _ _ _ hm
  obtain ⟨z0, w0⟩ := open_ops11 h0
  have k1 := h1
  have lt1 : ∀ x ∈ p1, x.block < W.heap.size := by obtain ⟨m, hm⟩ := k1; exact DataW.trod_lt m _ _ _ hm
  obtain ⟨a1, rfl, w1⟩ := open_ru11 (hval 1 31 v1 rfl rfl) h1
  obtain ⟨a2, rfl, rfl, rfl, w2⟩ := open_string Try.underlying9 (hval 2 9 v2 rfl rfl) h2
  clear hA0 hval0
  refine (walk a0 len0 cap0 z0 a1 a2 W w0 w1 w2).mono fun e W' ⟨he, bel⟩ => ?_
  subst he
  exact ⟨_, rfl, _, _, _, [], _, [], hW', trodAll_mk1 (shut_bool Try.underlying4 _), (trodAll_cons_mk (Below.trod laidOut (by kernel_rfl) (of_decide_eq_true (by kernel_rfl)) k0 bel lt0) (trodAll_cons_mk (Below.trod laidOut (by kernel_rfl) (of_decide_eq_true (by kernel_rfl)) k1 bel lt1) (trodAll_cons_mk (shut_string Try.underlying9 w2) trodAll_mk0))), rfl, bel.frame _, fun h => by cases h⟩

theorem over : Rows.graphGoneRow.holds Try.pinned (OpenSpec.ofChange Rows.graphGoneSpec) :=
  OpenClaim.holds_of_wide 5 Try.f5 rfl rfl rfl rfl rfl rfl rfl ⟨rfl, rfl, rfl, rfl, rfl⟩ rfl rfl rfl rfl rfl (by kernel_rfl) Try.func5 (by kernel_rfl)
    (of_decide_eq_true (by kernel_rfl)) (by unfold Func.isWrapper; first | (rw [if_pos (by decide +kernel)]; kernel_rfl) | (rw [if_neg (by decide +kernel)]; exact ⟨rfl, rfl⟩))
    (fun os started H enc _ => lifted os started H enc)

theorem proved : Rows.GraphGoneSaid := over
end graphGone
theorem graphGone_holds : Rows.GraphGoneSaid := graphGone.proved
#print axioms graphGone_holds
end Go.Proofs.Ytlogkhifgkkjeaa
