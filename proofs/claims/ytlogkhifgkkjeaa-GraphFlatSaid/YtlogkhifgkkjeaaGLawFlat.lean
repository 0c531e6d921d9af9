/-
  The statement 'GraphFlat' of layer 11: each rule is right; each key is made of one at most; none that is made is a source.
  No condition on the arguments.
-/
import Derived.Test.YtlogkhifgkkjeaaGKnown
import Derived.Test.YtlogkhifgkkjeaaGArgs
import Derived.Test.YtlogkhifgkkjeaaRows
import Derived.Test.YtlogkhifgkkjeaaGUse
import Derived.Test.YtlogkhifgkkjeaaGOpBox
import Derived.ChangeOld
namespace Go.Proofs.Ytlogkhifgkkjeaa
namespace graphFlat
open Go.ChangeShapes Go.WideShapes Go.ChangeAt Go.RowKit
open Go.ChangeMaps (open_string shut_string)
set_option linter.unusedVariables false
set_option linter.unusedSimpArgs false

theorem own : ownKnob Try.prog.godebug = none := by kernel_rfl

theorem ten {w : World} {b o B : Nat} {u : Ru} (h : U5 w b o u) (k : BoxU 31 w B u) : w.cell? ⟨b, o, none⟩ = some (.string (bs u.src)) ∧ w.cell? ⟨b, o + 1, none⟩ = some (.string (bs u.dst)) ∧ w.cell? ⟨b, o + 2, none⟩ = some (.int .i64 u.kind) ∧ w.cell? ⟨b, o + 3, none⟩ = some (.int .i64 u.size) ∧ w.cell? ⟨b, o + 4, none⟩ = some (.int .i64 u.align) ∧ w.cell? ⟨B, 0, none⟩ = some (.string (bs u.src)) ∧ w.cell? ⟨B, 1, none⟩ = some (.string (bs u.dst)) ∧ w.cell? ⟨B, 2, none⟩ = some (.int .i64 u.kind) ∧ w.cell? ⟨B, 3, none⟩ = some (.int .i64 u.size) ∧ w.cell? ⟨B, 4, none⟩ = some (.int .i64 u.align) :=
  ⟨h.x0, h.x1, h.x2, h.x3, h.x4, k.x0, k.x1, k.x2, k.x3, k.x4⟩
set_option maxRecDepth 100000 in
set_option maxHeartbeats 16000000 in
theorem walk (a : Option Addr) (n c : Nat) (z : List OpG) (w : World) (h : OpAt w a n c z) :
    Calls Try.prog 4 #[.slice a n c] w fun e w' => e = .returned (.bool true) ∧ Below w.heap.size w w' := by
  have HOp := Lib.hid h
  clear h
  go_enter Try.func4, Try.ntmps4
  go_wp2_with fail
  refine (gnew_any _).mono ?_
  rintro e W2 ⟨x, bi, bf, F0, rfl, hg, hb, hx, hF⟩
  have X : Hid (GOwn w.heap.size w W2 x bi bf F0 []) := Lib.hid (GOwn.new (Below.refl _ _) (Nat.le_refl _) hg hb hx hF)
  clear hg hb hx hF
  go_wp2
  go_loopw [4] (fun i wr => ∃ (j : Nat) (F : Nat → Prop) (L : List Ru), j ≤ 60 ∧ i = .int .i64 (j : Int) ∧ Hid (GOwn w.heap.size w wr x bi bf F L) ∧ Hid (L.length ≤ j)) (fun i _ => 60 - (intOf i).toNat)
  case atStart => exact ⟨0, F0, [], by omega, rfl, X, Lib.hid (Nat.le_refl _)⟩
  case round =>
    obtain ⟨j, F, L, hj, rfl, X, HL⟩ := hrel
    have hl := HL.out
    have hj0 : (0 : Int) ≤ (j : Int) := by omega
    by_cases hjn : j < n
    · have hjz : (j : Int) < (n : Int) := by omega
      by_cases h40 : j < 60
      · have h40z : (j : Int) < 60 := by omega
        obtain ⟨b, off, rfl, hb, k0, x0, x1, x2, x3, x4⟩ := (HOp.out.keep X.out.bel).at_ j hjn
        generalize (opG z j).r = q at *
        generalize (opG z j).k = kk at *
        have HLI := Lib.hid (fun W => olight q W)
        unfold ruV at HLI
        have br := (Below.refl wr.heap.size wr).alloc (Nat.le_refl _) (.cells #[.int .i64 kk, .string (bs q.src), .string (bs q.dst), .int .i64 q.kind, .int .i64 q.size, .int .i64 q.align] 33)
        have P := Lib.hid (OpBox.new wr kk q)
        have X2 := Lib.hid (X.out.keep br)
        have c1 := P.out.c1
        have c2 := P.out.c2
        have c3 := P.out.c3
        have c4 := P.out.c4
        have c5 := P.out.c5
        clear br
        by_cases hq : lightU q
        · rw [decide_eq_true hq] at HLI
          clear hq
          go_wp2_with fail
          clear c1 c2 c3 c4 c5 k0 x0 x1 x2 x3 x4
          generalize hW1 : wr.alloc (.cells #[.int .i64 kk, .string (bs q.src), .string (bs q.dst), .int .i64 q.kind, .int .i64 q.size, .int .i64 q.align] 33) = W1 at *
          clear hW1
          generalize wr.heap.size = B5 at *
          refine (HLI.out _).mono ?_
          rintro e V1 ⟨rfl, br⟩
          have X3 := Lib.hid (X2.out.keep br)
          replace P := Lib.hid (P.out.keep br)
          clear br X X2 HLI
          have c0 := P.out.c0
          have c1 := P.out.c1
          have c2 := P.out.c2
          have c3 := P.out.c3
          have c4 := P.out.c4
          have c5 := P.out.c5
          by_cases hk1 : kk = 1
          · subst hk1
            have C := odrop q.src q.dst X3.out (by omega)
            have HC := Lib.hid C
            have hM4 : (dropU L q.src q.dst).length ≤ j + 1 := by have := dropU_len L q.src q.dst; omega
            clear C
            go_wp2_with fail
            refine HC.out.mono ?_
            rintro e V2 ⟨rfl, F2, oo, tt⟩
            have X4 := Lib.hid oo
            clear oo tt HC c0 c1 c2 c3 c4 c5 P
            generalize dropU L q.src q.dst = M at *
            go_wp2_with fail
            refine (oall X4.out (by omega)).mono ?_
            rintro e V3 ⟨v6, rfl, rr, br⟩
            have X5 := Lib.hid (X4.out.keep br)
            obtain ⟨a6, c6, e6, hr6, _⟩ := rr.shape
            subst e6
            have H6 := Lib.hid hr6
            have HGL := Lib.hid X5.out.gr.good
            have HM4 := Lib.hid hM4
            clear rr br hr6 X4
            obtain ⟨m, hm⟩ : ∃ m, M.length = m := ⟨_, rfl⟩
            have HM := Lib.hid hm
            rw [hm] at H6 hM4 ⊢
            have hm60 : m ≤ 61 := by omega
            clear hm
            go_wp2
            go_loopw [7] (fun i wr => ∃ p : Nat, p ≤ m ∧ i = .int .i64 (p : Int) ∧ Hid (Below V3.heap.size V3 wr)) (fun i _ => m - (intOf i).toNat)
            case atStart => exact ⟨0, Nat.zero_le _, rfl, Lib.hid (Below.refl _ _)⟩
            case round =>
              obtain ⟨p, hp, rfl, B8⟩ := hrel
              have X8 := Lib.hid (X5.out.keep B8.out)
              have H8 := Lib.hid (H6.out.keep B8.out)
              by_cases hpm : p < m
              · have hpz : (p : Int) < (m : Int) := by omega
                have hp0 : (0 : Int) ≤ (p : Int) := by omega
                have hmem := uA_mem (l := M) (i := p) (by rw [HM.out]; exact hpm)
                have HI1 := Lib.hid (flat_into HGL.out hmem)
                have HI2 := Lib.hid (flat_src HGL.out hmem)
                have HI3 := Lib.hid (flat_of HGL.out hmem)
                have HRI := Lib.hid (decide_eq_true (HGL.out.right _ hmem))
                have HAT := Lib.hid (fun W (hW : RuAt W a6 m c6 M) => hW.at_ p hpm)
                obtain ⟨b6, off6, e6, hb6, x0, x1, x2, x3, x4⟩ := H8.out.at_ p hpm
                cases e6
                clear hmem
                have HRR := Lib.hid (fun W => gright_any (uA M p) W)
                rw [HRI.out] at HRR
                generalize uA M p = u at *
                unfold ruV at HRR
                have C := ointo u.dst X8.out
                rw [HI1.out] at C
                have HC := Lib.hid C
                clear C
                go_wp2_with fail
                refine HC.out.mono ?_
                rintro e V4 ⟨rfl, br⟩
                have X9 := Lib.hid (X8.out.keep br)
                have H9 := Lib.hid (H8.out.keep br)
                have B9 := Lib.hid (B8.out.trans (br.mono B8.out.size))
                clear br HC x0 x1 x2 x3 x4
                simp only [Option.getD_some, Option.isSome_some]
                unfold ruV
                have br := (Below.refl V4.heap.size V4).alloc (Nat.le_refl _) (.cells #[.string (bs u.src), .string (bs u.dst), .int .i64 u.kind, .int .i64 u.size, .int .i64 u.align] 31)
                have K8 := Lib.hid (BoxU.new 31 V4 u)
                have X10 := Lib.hid (X9.out.keep br)
                have H10 := Lib.hid (H9.out.keep br)
                have B10 := Lib.hid (B9.out.trans (br.mono B9.out.size))
                clear br X9 H9 B9
                obtain ⟨b7, off7, e7, hb7, x0, x1, x2, x3, x4⟩ := HAT.out _ H10.out
                cases e7
                have C := ointo u.src X10.out
                rw [HI2.out] at C
                have HC := Lib.hid C
                clear C
                go_wp2_with fail
                clear x0 x1 x2 x3 x4
                generalize hW5 : V4.alloc (.cells #[.string (bs u.src), .string (bs u.dst), .int .i64 u.kind, .int .i64 u.size, .int .i64 u.align] 31) = V5 at *
                clear hW5
                generalize V4.heap.size = B8b at *
                refine HC.out.mono ?_
                rintro e V6 ⟨rfl, br⟩
                replace X10 := Lib.hid (X10.out.keep br)
                replace H10 := Lib.hid (H10.out.keep br)
                replace K8 := Lib.hid (K8.out.keep br)
                replace B10 := Lib.hid (B10.out.trans (br.mono B10.out.size))
                clear br HC
                simp only [Option.getD_none, Option.isSome_none]
                unfold ruV
                have br := (Below.refl V6.heap.size V6).alloc (Nat.le_refl _) (.cells #[.string (bs zeroU.src), .string (bs zeroU.dst), .int .i64 zeroU.kind, .int .i64 zeroU.size, .int .i64 zeroU.align] 31)
                replace X10 := Lib.hid (X10.out.keep br)
                replace H10 := Lib.hid (H10.out.keep br)
                replace K8 := Lib.hid (K8.out.keep br)
                replace B10 := Lib.hid (B10.out.trans (br.mono B10.out.size))
                clear br
                go_wp2_with fail
                generalize hW7 : V6.alloc (.cells #[.string (bs zeroU.src), .string (bs zeroU.dst), .int .i64 zeroU.kind, .int .i64 zeroU.size, .int .i64 zeroU.align] 31) = V7 at *
                clear hW7
                generalize V6.heap.size = B10b at *
                obtain ⟨b7, off7, e7, hb7, x0, x1, x2, x3, x4⟩ := HAT.out _ H10.out
                cases e7
                have y0 := K8.out.x0
                have y1 := K8.out.x1
                have y2 := K8.out.x2
                have y3 := K8.out.x3
                have y4 := K8.out.x4
                have hne : ∀ W, (binOp .neq 31 (ruV u) (ruV u)).run Try.prog W = .ok (.bool false) W := fun W => by rw [run_ne_gu, decide_eq_true rfl]; rfl
                unfold ruV at hne
                have br := (Below.refl V7.heap.size V7).drew
                have XD := Lib.hid (X10.out.keep br)
                have BD := Lib.hid (B10.out.trans (br.mono B10.out.size))
                have UD := Lib.hid (show U5 V7.drew b6 (off6 + p * 5) u from (show U5 V7 b6 (off6 + p * 5) u from ⟨x0, x1, x2, x3, x4⟩).tu (F := fun _ => False) (.of br) id)
                have KD := Lib.hid (K8.out.keep br)
                have ED := Lib.hid (ten UD.out KD.out)
                clear br
                go_region_held3 (fun w' => w'.cell? ⟨b6, off6 + p * 5, none⟩ = some (.string (bs u.src)) ∧ w'.cell? ⟨b6, off6 + p * 5 + 1, none⟩ = some (.string (bs u.dst)) ∧ w'.cell? ⟨b6, off6 + p * 5 + 2, none⟩ = some (.int .i64 u.kind) ∧ w'.cell? ⟨b6, off6 + p * 5 + 3, none⟩ = some (.int .i64 u.size) ∧ w'.cell? ⟨b6, off6 + p * 5 + 4, none⟩ = some (.int .i64 u.align) ∧ w'.cell? ⟨B8b, 0, none⟩ = some (.string (bs u.src)) ∧ w'.cell? ⟨B8b, 1, none⟩ = some (.string (bs u.dst)) ∧ w'.cell? ⟨B8b, 2, none⟩ = some (.int .i64 u.kind) ∧ w'.cell? ⟨B8b, 3, none⟩ = some (.int .i64 u.size) ∧ w'.cell? ⟨B8b, 4, none⟩ = some (.int .i64 u.align))
                  (first | exact ED.out | exact E1.out | exact E2.out | go_keep)
                  (first
                    | (go_at_call 27
                       (with_reducible refine (HRR.out V7.drew).mono ?_)
                       rintro e U1 ⟨rfl, br⟩
                       have X11 := Lib.hid (XD.out.keep br)
                       have B11 := Lib.hid (BD.out.trans (br.mono BD.out.size))
                       have UD1 := Lib.hid (UD.out.tu (F := fun _ => False) (.of br) id)
                       have KD1 := Lib.hid (KD.out.keep br)
                       have E1 := Lib.hid (ten UD1.out KD1.out)
                       have C := oof u.dst X11.out (Nat.le_trans HM4.out (by omega))
                       rw [HI3.out] at C
                       have HCO := Lib.hid C
                       clear br C)
                    | (go_at_call 25
                       (with_reducible refine HCO.out.mono ?_)
                       rintro e U2 ⟨v112, rfl, rr, br⟩
                       obtain ⟨a112, c112, e112, _, _⟩ := rr.shape
                       replace e112 : v112 = .slice a112 0 c112 := e112
                       subst e112
                       have B12 := Lib.hid (B11.out.trans (br.mono B11.out.size))
                       have UD2 := Lib.hid (UD1.out.tu (F := fun _ => False) (.of br) id)
                       have KD2 := Lib.hid (KD1.out.keep br)
                       have E2 := Lib.hid (ten UD2.out KD2.out)
                       clear br rr)
                    | fail)
                rename_i hHeld
                clear hHeld E1 E2 ED UD UD1 UD2 KD KD1 KD2 x0 x1 x2 x3 x4 y0 y1 y2 y3 y4 hne
                go_wp2
                go_roundw
                case rel => first
                  | exact ⟨p + 1, by omega, by go_num, B12⟩
                  | exact ⟨_, _, _, _, _, _, _, _, _, _, _, _, _, _, _, _, _, _, _, _, _, _, _, _, _, _, _, _, _, _, _, _, _, _, _, _, _, _, _, _, _, _, _, _, _, _, _, _, _, _, _, _, _, _, _, _, _, _, _, _, _, _, _, _, ⟨p + 1, by omega, by go_num, B12⟩, rfl⟩
                  | exact ⟨_, _, _, _, _, _, _, _, _, _, _, _, _, _, _, _, _, _, _, _, _, _, _, _, _, _, _, _, _, _, _, _, _, _, _, _, _, _, _, _, _, _, _, _, _, _, _, _, _, _, _, _, _, _, _, _, _, _, _, _, _, _, _, _, _, ⟨p + 1, by omega, by go_num, B12⟩, rfl⟩
                  | exact ⟨_, _, _, _, _, _, _, _, _, _, _, _, _, _, _, _, _, _, _, _, _, _, _, _, _, _, _, _, _, _, _, _, _, _, _, _, _, _, _, _, _, _, _, _, _, _, _, _, _, _, _, _, _, _, _, _, _, _, _, _, _, _, _, _, _, _, ⟨p + 1, by omega, by go_num, B12⟩, rfl⟩
                  | exact ⟨_, _, _, _, _, _, _, _, _, _, _, _, _, _, _, _, _, _, _, _, _, _, _, _, _, _, _, _, _, _, _, _, _, _, _, _, _, _, _, _, _, _, _, _, _, _, _, _, _, _, _, _, _, _, _, _, _, _, _, _, _, _, _, _, _, _, _, ⟨p + 1, by omega, by go_num, B12⟩, rfl⟩
                  | exact ⟨_, _, _, _, _, _, _, _, _, _, _, _, _, _, _, _, _, _, _, _, _, _, _, _, _, _, _, _, _, _, _, _, _, _, _, _, _, _, _, _, _, _, _, _, _, _, _, _, _, _, _, _, _, _, _, _, _, _, _, _, _, _, _, _, _, _, _, _, ⟨p + 1, by omega, by go_num, B12⟩, rfl⟩
                  | exact ⟨_, _, _, _, _, _, _, _, _, _, _, _, _, _, _, _, _, _, _, _, _, _, _, _, _, _, _, _, _, _, _, _, _, _, _, _, _, _, _, _, _, _, _, _, _, _, _, _, _, _, _, _, _, _, _, _, _, _, _, _, _, _, _, _, _, _, _, _, _, ⟨p + 1, by omega, by go_num, B12⟩, rfl⟩
                  | exact ⟨_, _, _, _, _, _, _, _, _, _, _, _, _, _, _, _, _, _, _, _, _, _, _, _, _, _, _, _, _, _, _, _, _, _, _, _, _, _, _, _, _, _, _, _, _, _, _, _, _, _, _, _, _, _, _, _, _, _, _, _, _, _, _, _, _, _, _, _, _, _, ⟨p + 1, by omega, by go_num, B12⟩, rfl⟩
                  | exact ⟨_, _, _, _, _, _, _, _, _, _, _, _, _, _, _, _, _, _, _, _, _, _, _, _, _, _, _, _, _, _, _, _, _, _, _, _, _, _, _, _, _, _, _, _, _, _, _, _, _, _, _, _, _, _, _, _, _, _, _, _, _, _, _, _, _, _, _, _, _, _, _, ⟨p + 1, by omega, by go_num, B12⟩, rfl⟩
                  | exact ⟨_, _, _, _, _, _, _, _, _, _, _, _, _, _, _, _, _, _, _, _, _, _, _, _, _, _, _, _, _, _, _, _, _, _, _, _, _, _, _, _, _, _, _, _, _, _, _, _, _, _, _, _, _, _, _, _, _, _, _, _, _, _, _, _, _, _, _, _, _, _, _, _, ⟨p + 1, by omega, by go_num, B12⟩, rfl⟩
                  | exact ⟨_, _, _, _, _, _, _, _, _, _, _, _, _, _, _, _, _, _, _, _, _, _, _, _, _, _, _, _, _, _, _, _, _, _, _, _, _, _, _, _, _, _, _, _, _, _, _, _, _, _, _, _, _, _, _, _, _, _, _, _, _, _, _, _, _, _, _, _, _, _, _, _, _, ⟨p + 1, by omega, by go_num, B12⟩, rfl⟩
                  | exact ⟨_, _, _, _, _, _, _, _, _, _, _, _, _, _, _, _, _, _, _, _, _, _, _, _, _, _, _, _, _, _, _, _, _, _, _, _, _, _, _, _, _, _, _, _, _, _, _, _, _, _, _, _, _, _, _, _, _, _, _, _, _, _, _, _, _, _, _, _, _, _, _, _, _, _, ⟨p + 1, by omega, by go_num, B12⟩, rfl⟩
                  | exact ⟨_, _, _, _, _, _, _, _, _, _, _, _, _, _, _, _, _, _, _, _, _, _, _, _, _, _, _, _, _, _, _, _, _, _, _, _, _, _, _, _, _, _, _, _, _, _, _, _, _, _, _, _, _, _, _, _, _, _, _, _, _, _, _, ⟨p + 1, by omega, by go_num, B12⟩, rfl⟩
                  | exact ⟨_, _, _, _, _, _, _, _, _, _, _, _, _, _, _, _, _, _, _, _, _, _, _, _, _, _, _, _, _, _, _, _, _, _, _, _, _, _, _, _, _, _, _, _, _, _, _, _, _, _, _, _, _, _, _, _, _, _, _, _, _, _, ⟨p + 1, by omega, by go_num, B12⟩, rfl⟩
                  | exact ⟨_, _, _, _, _, _, _, _, _, _, _, _, _, _, _, _, _, _, _, _, _, _, _, _, _, _, _, _, _, _, _, _, _, _, _, _, _, _, _, _, _, _, _, _, _, _, _, _, _, _, _, _, _, _, _, _, _, _, _, _, _, ⟨p + 1, by omega, by go_num, B12⟩, rfl⟩
                  | exact ⟨_, _, _, _, _, _, _, _, _, _, _, _, _, _, _, _, _, _, _, _, _, _, _, _, _, _, _, _, _, _, _, _, _, _, _, _, _, _, _, _, _, _, _, _, _, _, _, _, _, _, _, _, _, _, _, _, _, _, _, _, ⟨p + 1, by omega, by go_num, B12⟩, rfl⟩
                  | exact ⟨_, _, _, _, _, _, _, _, _, _, _, _, _, _, _, _, _, _, _, _, _, _, _, _, _, _, _, _, _, _, _, _, _, _, _, _, _, _, _, _, _, _, _, _, _, _, _, _, _, _, _, _, _, _, _, _, _, _, _, ⟨p + 1, by omega, by go_num, B12⟩, rfl⟩
                  | exact ⟨_, _, _, _, _, _, _, _, _, _, _, _, _, _, _, _, _, _, _, _, _, _, _, _, _, _, _, _, _, _, _, _, _, _, _, _, _, _, _, _, _, _, _, _, _, _, _, _, _, _, _, _, _, _, _, _, _, _, ⟨p + 1, by omega, by go_num, B12⟩, rfl⟩
                  | exact ⟨_, _, _, _, _, _, _, _, _, _, _, _, _, _, _, _, _, _, _, _, _, _, _, _, _, _, _, _, _, _, _, _, _, _, _, _, _, _, _, _, _, _, _, _, _, _, _, _, _, _, _, _, _, _, _, _, _, ⟨p + 1, by omega, by go_num, B12⟩, rfl⟩
                  | exact ⟨_, _, _, _, _, _, _, _, _, _, _, _, _, _, _, _, _, _, _, _, _, _, _, _, _, _, _, _, _, _, _, _, _, _, _, _, _, _, _, _, _, _, _, _, _, _, _, _, _, _, _, _, _, _, _, _, ⟨p + 1, by omega, by go_num, B12⟩, rfl⟩
                  | exact ⟨_, _, _, _, _, _, _, _, _, _, _, _, _, _, _, _, _, _, _, _, _, _, _, _, _, _, _, _, _, _, _, _, _, _, _, _, _, _, _, _, _, _, _, _, _, _, _, _, _, _, _, _, _, _, _, ⟨p + 1, by omega, by go_num, B12⟩, rfl⟩
                  | exact ⟨_, _, _, _, _, _, _, _, _, _, _, _, _, _, _, _, _, _, _, _, _, _, _, _, _, _, _, _, _, _, _, _, _, _, _, _, _, _, _, _, _, _, _, _, _, _, _, _, _, _, _, _, _, _, ⟨p + 1, by omega, by go_num, B12⟩, rfl⟩
                  | exact ⟨_, _, _, _, _, _, _, _, _, _, _, _, _, _, _, _, _, _, _, _, _, _, _, _, _, _, _, _, _, _, _, _, _, _, _, _, _, _, _, _, _, _, _, _, _, _, _, _, _, _, _, _, _, ⟨p + 1, by omega, by go_num, B12⟩, rfl⟩
                  | exact ⟨_, _, _, _, _, _, _, _, _, _, _, _, _, _, _, _, _, _, _, _, _, _, _, _, _, _, _, _, _, _, _, _, _, _, _, _, _, _, _, _, _, _, _, _, _, _, _, _, _, _, _, _, ⟨p + 1, by omega, by go_num, B12⟩, rfl⟩
                  | exact ⟨_, _, _, _, _, _, _, _, _, _, _, _, _, _, _, _, _, _, _, _, _, _, _, _, _, _, _, _, _, _, _, _, _, _, _, _, _, _, _, _, _, _, _, _, _, _, _, _, _, _, _, ⟨p + 1, by omega, by go_num, B12⟩, rfl⟩
                case measure => simp [intOf]; omega
              · have hpz : ¬ (p : Int) < (m : Int) := by omega
                go_wp2
                go_roundw
                case rel => exact ⟨j + 1, F2, M, by omega, by go_num, X8, Lib.hid (Nat.le_trans HM4.out (Nat.le_refl _))⟩
                case measure => simp [intOf]; omega

          · by_cases hk2 : kk = 2
            · subst hk2
              have C := ogone q.src X3.out (by omega)
              have HC := Lib.hid C
              have hM4 : (goneL L q.src).length ≤ j + 1 := by have := goneL_le L q.src; omega
              clear C
              go_wp2_with fail
              refine HC.out.mono ?_
              rintro e V2 ⟨rfl, F2, oo, tt⟩
              have X4 := Lib.hid oo
              clear oo tt HC c0 c1 c2 c3 c4 c5 P
              generalize goneL L q.src = M at *
              go_wp2_with fail
              refine (oall X4.out (by omega)).mono ?_
              rintro e V3 ⟨v6, rfl, rr, br⟩
              have X5 := Lib.hid (X4.out.keep br)
              obtain ⟨a6, c6, e6, hr6, _⟩ := rr.shape
              subst e6
              have H6 := Lib.hid hr6
              have HGL := Lib.hid X5.out.gr.good
              have HM4 := Lib.hid hM4
              clear rr br hr6 X4
              obtain ⟨m, hm⟩ : ∃ m, M.length = m := ⟨_, rfl⟩
              have HM := Lib.hid hm
              rw [hm] at H6 hM4 ⊢
              have hm60 : m ≤ 61 := by omega
              clear hm
              go_wp2
              go_loopw [7] (fun i wr => ∃ p : Nat, p ≤ m ∧ i = .int .i64 (p : Int) ∧ Hid (Below V3.heap.size V3 wr)) (fun i _ => m - (intOf i).toNat)
              case atStart => exact ⟨0, Nat.zero_le _, rfl, Lib.hid (Below.refl _ _)⟩
              case round =>
                obtain ⟨p, hp, rfl, B8⟩ := hrel
                have X8 := Lib.hid (X5.out.keep B8.out)
                have H8 := Lib.hid (H6.out.keep B8.out)
                by_cases hpm : p < m
                · have hpz : (p : Int) < (m : Int) := by omega
                  have hp0 : (0 : Int) ≤ (p : Int) := by omega
                  have hmem := uA_mem (l := M) (i := p) (by rw [HM.out]; exact hpm)
                  have HI1 := Lib.hid (flat_into HGL.out hmem)
                  have HI2 := Lib.hid (flat_src HGL.out hmem)
                  have HI3 := Lib.hid (flat_of HGL.out hmem)
                  have HRI := Lib.hid (decide_eq_true (HGL.out.right _ hmem))
                  have HAT := Lib.hid (fun W (hW : RuAt W a6 m c6 M) => hW.at_ p hpm)
                  obtain ⟨b6, off6, e6, hb6, x0, x1, x2, x3, x4⟩ := H8.out.at_ p hpm
                  cases e6
                  clear hmem
                  have HRR := Lib.hid (fun W => gright_any (uA M p) W)
                  rw [HRI.out] at HRR
                  generalize uA M p = u at *
                  unfold ruV at HRR
                  have C := ointo u.dst X8.out
                  rw [HI1.out] at C
                  have HC := Lib.hid C
                  clear C
                  go_wp2_with fail
                  refine HC.out.mono ?_
                  rintro e V4 ⟨rfl, br⟩
                  have X9 := Lib.hid (X8.out.keep br)
                  have H9 := Lib.hid (H8.out.keep br)
                  have B9 := Lib.hid (B8.out.trans (br.mono B8.out.size))
                  clear br HC x0 x1 x2 x3 x4
                  simp only [Option.getD_some, Option.isSome_some]
                  unfold ruV
                  have br := (Below.refl V4.heap.size V4).alloc (Nat.le_refl _) (.cells #[.string (bs u.src), .string (bs u.dst), .int .i64 u.kind, .int .i64 u.size, .int .i64 u.align] 31)
                  have K8 := Lib.hid (BoxU.new 31 V4 u)
                  have X10 := Lib.hid (X9.out.keep br)
                  have H10 := Lib.hid (H9.out.keep br)
                  have B10 := Lib.hid (B9.out.trans (br.mono B9.out.size))
                  clear br X9 H9 B9
                  obtain ⟨b7, off7, e7, hb7, x0, x1, x2, x3, x4⟩ := HAT.out _ H10.out
                  cases e7
                  have C := ointo u.src X10.out
                  rw [HI2.out] at C
                  have HC := Lib.hid C
                  clear C
                  go_wp2_with fail
                  clear x0 x1 x2 x3 x4
                  generalize hW5 : V4.alloc (.cells #[.string (bs u.src), .string (bs u.dst), .int .i64 u.kind, .int .i64 u.size, .int .i64 u.align] 31) = V5 at *
                  clear hW5
                  generalize V4.heap.size = B8b at *
                  refine HC.out.mono ?_
                  rintro e V6 ⟨rfl, br⟩
                  replace X10 := Lib.hid (X10.out.keep br)
                  replace H10 := Lib.hid (H10.out.keep br)
                  replace K8 := Lib.hid (K8.out.keep br)
                  replace B10 := Lib.hid (B10.out.trans (br.mono B10.out.size))
                  clear br HC
                  simp only [Option.getD_none, Option.isSome_none]
                  unfold ruV
                  have br := (Below.refl V6.heap.size V6).alloc (Nat.le_refl _) (.cells #[.string (bs zeroU.src), .string (bs zeroU.dst), .int .i64 zeroU.kind, .int .i64 zeroU.size, .int .i64 zeroU.align] 31)
                  replace X10 := Lib.hid (X10.out.keep br)
                  replace H10 := Lib.hid (H10.out.keep br)
                  replace K8 := Lib.hid (K8.out.keep br)
                  replace B10 := Lib.hid (B10.out.trans (br.mono B10.out.size))
                  clear br
                  go_wp2_with fail
                  generalize hW7 : V6.alloc (.cells #[.string (bs zeroU.src), .string (bs zeroU.dst), .int .i64 zeroU.kind, .int .i64 zeroU.size, .int .i64 zeroU.align] 31) = V7 at *
                  clear hW7
                  generalize V6.heap.size = B10b at *
                  obtain ⟨b7, off7, e7, hb7, x0, x1, x2, x3, x4⟩ := HAT.out _ H10.out
                  cases e7
                  have y0 := K8.out.x0
                  have y1 := K8.out.x1
                  have y2 := K8.out.x2
                  have y3 := K8.out.x3
                  have y4 := K8.out.x4
                  have hne : ∀ W, (binOp .neq 31 (ruV u) (ruV u)).run Try.prog W = .ok (.bool false) W := fun W => by rw [run_ne_gu, decide_eq_true rfl]; rfl
                  unfold ruV at hne
                  have br := (Below.refl V7.heap.size V7).drew
                  have XD := Lib.hid (X10.out.keep br)
                  have BD := Lib.hid (B10.out.trans (br.mono B10.out.size))
                  have UD := Lib.hid (show U5 V7.drew b6 (off6 + p * 5) u from (show U5 V7 b6 (off6 + p * 5) u from ⟨x0, x1, x2, x3, x4⟩).tu (F := fun _ => False) (.of br) id)
                  have KD := Lib.hid (K8.out.keep br)
                  have ED := Lib.hid (ten UD.out KD.out)
                  clear br
                  go_region_held3 (fun w' => w'.cell? ⟨b6, off6 + p * 5, none⟩ = some (.string (bs u.src)) ∧ w'.cell? ⟨b6, off6 + p * 5 + 1, none⟩ = some (.string (bs u.dst)) ∧ w'.cell? ⟨b6, off6 + p * 5 + 2, none⟩ = some (.int .i64 u.kind) ∧ w'.cell? ⟨b6, off6 + p * 5 + 3, none⟩ = some (.int .i64 u.size) ∧ w'.cell? ⟨b6, off6 + p * 5 + 4, none⟩ = some (.int .i64 u.align) ∧ w'.cell? ⟨B8b, 0, none⟩ = some (.string (bs u.src)) ∧ w'.cell? ⟨B8b, 1, none⟩ = some (.string (bs u.dst)) ∧ w'.cell? ⟨B8b, 2, none⟩ = some (.int .i64 u.kind) ∧ w'.cell? ⟨B8b, 3, none⟩ = some (.int .i64 u.size) ∧ w'.cell? ⟨B8b, 4, none⟩ = some (.int .i64 u.align))
                    (first | exact ED.out | exact E1.out | exact E2.out | go_keep)
                    (first
                      | (go_at_call 27
                         (with_reducible refine (HRR.out V7.drew).mono ?_)
                         rintro e U1 ⟨rfl, br⟩
                         have X11 := Lib.hid (XD.out.keep br)
                         have B11 := Lib.hid (BD.out.trans (br.mono BD.out.size))
                         have UD1 := Lib.hid (UD.out.tu (F := fun _ => False) (.of br) id)
                         have KD1 := Lib.hid (KD.out.keep br)
                         have E1 := Lib.hid (ten UD1.out KD1.out)
                         have C := oof u.dst X11.out (Nat.le_trans HM4.out (by omega))
                         rw [HI3.out] at C
                         have HCO := Lib.hid C
                         clear br C)
                      | (go_at_call 25
                         (with_reducible refine HCO.out.mono ?_)
                         rintro e U2 ⟨v112, rfl, rr, br⟩
                         obtain ⟨a112, c112, e112, _, _⟩ := rr.shape
                         replace e112 : v112 = .slice a112 0 c112 := e112
                         subst e112
                         have B12 := Lib.hid (B11.out.trans (br.mono B11.out.size))
                         have UD2 := Lib.hid (UD1.out.tu (F := fun _ => False) (.of br) id)
                         have KD2 := Lib.hid (KD1.out.keep br)
                         have E2 := Lib.hid (ten UD2.out KD2.out)
                         clear br rr)
                      | fail)
                  rename_i hHeld
                  clear hHeld E1 E2 ED UD UD1 UD2 KD KD1 KD2 x0 x1 x2 x3 x4 y0 y1 y2 y3 y4 hne
                  go_wp2
                  go_roundw
                  case rel => first
                    | exact ⟨p + 1, by omega, by go_num, B12⟩
                    | exact ⟨_, _, _, _, _, _, _, _, _, _, _, _, _, _, _, _, _, _, _, _, _, _, _, _, _, _, _, _, _, _, _, _, _, _, _, _, _, _, _, _, _, _, _, _, _, _, _, _, _, _, _, _, _, _, _, _, _, _, _, _, _, _, _, _, ⟨p + 1, by omega, by go_num, B12⟩, rfl⟩
                    | exact ⟨_, _, _, _, _, _, _, _, _, _, _, _, _, _, _, _, _, _, _, _, _, _, _, _, _, _, _, _, _, _, _, _, _, _, _, _, _, _, _, _, _, _, _, _, _, _, _, _, _, _, _, _, _, _, _, _, _, _, _, _, _, _, _, _, _, ⟨p + 1, by omega, by go_num, B12⟩, rfl⟩
                    | exact ⟨_, _, _, _, _, _, _, _, _, _, _, _, _, _, _, _, _, _, _, _, _, _, _, _, _, _, _, _, _, _, _, _, _, _, _, _, _, _, _, _, _, _, _, _, _, _, _, _, _, _, _, _, _, _, _, _, _, _, _, _, _, _, _, _, _, _, ⟨p + 1, by omega, by go_num, B12⟩, rfl⟩
                    | exact ⟨_, _, _, _, _, _, _, _, _, _, _, _, _, _, _, _, _, _, _, _, _, _, _, _, _, _, _, _, _, _, _, _, _, _, _, _, _, _, _, _, _, _, _, _, _, _, _, _, _, _, _, _, _, _, _, _, _, _, _, _, _, _, _, _, _, _, _, ⟨p + 1, by omega, by go_num, B12⟩, rfl⟩
                    | exact ⟨_, _, _, _, _, _, _, _, _, _, _, _, _, _, _, _, _, _, _, _, _, _, _, _, _, _, _, _, _, _, _, _, _, _, _, _, _, _, _, _, _, _, _, _, _, _, _, _, _, _, _, _, _, _, _, _, _, _, _, _, _, _, _, _, _, _, _, _, ⟨p + 1, by omega, by go_num, B12⟩, rfl⟩
                    | exact ⟨_, _, _, _, _, _, _, _, _, _, _, _, _, _, _, _, _, _, _, _, _, _, _, _, _, _, _, _, _, _, _, _, _, _, _, _, _, _, _, _, _, _, _, _, _, _, _, _, _, _, _, _, _, _, _, _, _, _, _, _, _, _, _, _, _, _, _, _, _, ⟨p + 1, by omega, by go_num, B12⟩, rfl⟩
                    | exact ⟨_, _, _, _, _, _, _, _, _, _, _, _, _, _, _, _, _, _, _, _, _, _, _, _, _, _, _, _, _, _, _, _, _, _, _, _, _, _, _, _, _, _, _, _, _, _, _, _, _, _, _, _, _, _, _, _, _, _, _, _, _, _, _, _, _, _, _, _, _, _, ⟨p + 1, by omega, by go_num, B12⟩, rfl⟩
                    | exact ⟨_, _, _, _, _, _, _, _, _, _, _, _, _, _, _, _, _, _, _, _, _, _, _, _, _, _, _, _, _, _, _, _, _, _, _, _, _, _, _, _, _, _, _, _, _, _, _, _, _, _, _, _, _, _, _, _, _, _, _, _, _, _, _, _, _, _, _, _, _, _, _, ⟨p + 1, by omega, by go_num, B12⟩, rfl⟩
                    | exact ⟨_, _, _, _, _, _, _, _, _, _, _, _, _, _, _, _, _, _, _, _, _, _, _, _, _, _, _, _, _, _, _, _, _, _, _, _, _, _, _, _, _, _, _, _, _, _, _, _, _, _, _, _, _, _, _, _, _, _, _, _, _, _, _, _, _, _, _, _, _, _, _, _, ⟨p + 1, by omega, by go_num, B12⟩, rfl⟩
                    | exact ⟨_, _, _, _, _, _, _, _, _, _, _, _, _, _, _, _, _, _, _, _, _, _, _, _, _, _, _, _, _, _, _, _, _, _, _, _, _, _, _, _, _, _, _, _, _, _, _, _, _, _, _, _, _, _, _, _, _, _, _, _, _, _, _, _, _, _, _, _, _, _, _, _, _, ⟨p + 1, by omega, by go_num, B12⟩, rfl⟩
                    | exact ⟨_, _, _, _, _, _, _, _, _, _, _, _, _, _, _, _, _, _, _, _, _, _, _, _, _, _, _, _, _, _, _, _, _, _, _, _, _, _, _, _, _, _, _, _, _, _, _, _, _, _, _, _, _, _, _, _, _, _, _, _, _, _, _, _, _, _, _, _, _, _, _, _, _, _, ⟨p + 1, by omega, by go_num, B12⟩, rfl⟩
                    | exact ⟨_, _, _, _, _, _, _, _, _, _, _, _, _, _, _, _, _, _, _, _, _, _, _, _, _, _, _, _, _, _, _, _, _, _, _, _, _, _, _, _, _, _, _, _, _, _, _, _, _, _, _, _, _, _, _, _, _, _, _, _, _, _, _, ⟨p + 1, by omega, by go_num, B12⟩, rfl⟩
                    | exact ⟨_, _, _, _, _, _, _, _, _, _, _, _, _, _, _, _, _, _, _, _, _, _, _, _, _, _, _, _, _, _, _, _, _, _, _, _, _, _, _, _, _, _, _, _, _, _, _, _, _, _, _, _, _, _, _, _, _, _, _, _, _, _, ⟨p + 1, by omega, by go_num, B12⟩, rfl⟩
                    | exact ⟨_, _, _, _, _, _, _, _, _, _, _, _, _, _, _, _, _, _, _, _, _, _, _, _, _, _, _, _, _, _, _, _, _, _, _, _, _, _, _, _, _, _, _, _, _, _, _, _, _, _, _, _, _, _, _, _, _, _, _, _, _, ⟨p + 1, by omega, by go_num, B12⟩, rfl⟩
                    | exact ⟨_, _, _, _, _, _, _, _, _, _, _, _, _, _, _, _, _, _, _, _, _, _, _, _, _, _, _, _, _, _, _, _, _, _, _, _, _, _, _, _, _, _, _, _, _, _, _, _, _, _, _, _, _, _, _, _, _, _, _, _, ⟨p + 1, by omega, by go_num, B12⟩, rfl⟩
                    | exact ⟨_, _, _, _, _, _, _, _, _, _, _, _, _, _, _, _, _, _, _, _, _, _, _, _, _, _, _, _, _, _, _, _, _, _, _, _, _, _, _, _, _, _, _, _, _, _, _, _, _, _, _, _, _, _, _, _, _, _, _, ⟨p + 1, by omega, by go_num, B12⟩, rfl⟩
                    | exact ⟨_, _, _, _, _, _, _, _, _, _, _, _, _, _, _, _, _, _, _, _, _, _, _, _, _, _, _, _, _, _, _, _, _, _, _, _, _, _, _, _, _, _, _, _, _, _, _, _, _, _, _, _, _, _, _, _, _, _, ⟨p + 1, by omega, by go_num, B12⟩, rfl⟩
                    | exact ⟨_, _, _, _, _, _, _, _, _, _, _, _, _, _, _, _, _, _, _, _, _, _, _, _, _, _, _, _, _, _, _, _, _, _, _, _, _, _, _, _, _, _, _, _, _, _, _, _, _, _, _, _, _, _, _, _, _, ⟨p + 1, by omega, by go_num, B12⟩, rfl⟩
                    | exact ⟨_, _, _, _, _, _, _, _, _, _, _, _, _, _, _, _, _, _, _, _, _, _, _, _, _, _, _, _, _, _, _, _, _, _, _, _, _, _, _, _, _, _, _, _, _, _, _, _, _, _, _, _, _, _, _, _, ⟨p + 1, by omega, by go_num, B12⟩, rfl⟩
                    | exact ⟨_, _, _, _, _, _, _, _, _, _, _, _, _, _, _, _, _, _, _, _, _, _, _, _, _, _, _, _, _, _, _, _, _, _, _, _, _, _, _, _, _, _, _, _, _, _, _, _, _, _, _, _, _, _, _, ⟨p + 1, by omega, by go_num, B12⟩, rfl⟩
                    | exact ⟨_, _, _, _, _, _, _, _, _, _, _, _, _, _, _, _, _, _, _, _, _, _, _, _, _, _, _, _, _, _, _, _, _, _, _, _, _, _, _, _, _, _, _, _, _, _, _, _, _, _, _, _, _, _, ⟨p + 1, by omega, by go_num, B12⟩, rfl⟩
                    | exact ⟨_, _, _, _, _, _, _, _, _, _, _, _, _, _, _, _, _, _, _, _, _, _, _, _, _, _, _, _, _, _, _, _, _, _, _, _, _, _, _, _, _, _, _, _, _, _, _, _, _, _, _, _, _, ⟨p + 1, by omega, by go_num, B12⟩, rfl⟩
                    | exact ⟨_, _, _, _, _, _, _, _, _, _, _, _, _, _, _, _, _, _, _, _, _, _, _, _, _, _, _, _, _, _, _, _, _, _, _, _, _, _, _, _, _, _, _, _, _, _, _, _, _, _, _, _, ⟨p + 1, by omega, by go_num, B12⟩, rfl⟩
                    | exact ⟨_, _, _, _, _, _, _, _, _, _, _, _, _, _, _, _, _, _, _, _, _, _, _, _, _, _, _, _, _, _, _, _, _, _, _, _, _, _, _, _, _, _, _, _, _, _, _, _, _, _, _, ⟨p + 1, by omega, by go_num, B12⟩, rfl⟩
                  case measure => simp [intOf]; omega
                · have hpz : ¬ (p : Int) < (m : Int) := by omega
                  go_wp2
                  go_roundw
                  case rel => exact ⟨j + 1, F2, M, by omega, by go_num, X8, Lib.hid (Nat.le_trans HM4.out (Nat.le_refl _))⟩
                  case measure => simp [intOf]; omega

            · have hk1z : (kk == 1) = false := by simpa using hk1
              have hk2z : (kk == 2) = false := by simpa using hk2
              have C := oadd q X3.out (by omega)
              have HC := Lib.hid C
              have hM4 : (addU L q).length ≤ j + 1 := by have := addU_len L q; omega
              clear C
              go_wp2_with fail
              refine HC.out.mono ?_
              rintro e V2 ⟨rfl, F2, oo, tt⟩
              have X4 := Lib.hid oo
              clear oo tt HC c0 c1 c2 c3 c4 c5 P
              generalize addU L q = M at *
              go_wp2_with fail
              refine (oall X4.out (by omega)).mono ?_
              rintro e V3 ⟨v6, rfl, rr, br⟩
              have X5 := Lib.hid (X4.out.keep br)
              obtain ⟨a6, c6, e6, hr6, _⟩ := rr.shape
              subst e6
              have H6 := Lib.hid hr6
              have HGL := Lib.hid X5.out.gr.good
              have HM4 := Lib.hid hM4
              clear rr br hr6 X4
              obtain ⟨m, hm⟩ : ∃ m, M.length = m := ⟨_, rfl⟩
              have HM := Lib.hid hm
              rw [hm] at H6 hM4 ⊢
              have hm60 : m ≤ 61 := by omega
              clear hm
              go_wp2
              go_loopw [7] (fun i wr => ∃ p : Nat, p ≤ m ∧ i = .int .i64 (p : Int) ∧ Hid (Below V3.heap.size V3 wr)) (fun i _ => m - (intOf i).toNat)
              case atStart => exact ⟨0, Nat.zero_le _, rfl, Lib.hid (Below.refl _ _)⟩
              case round =>
                obtain ⟨p, hp, rfl, B8⟩ := hrel
                have X8 := Lib.hid (X5.out.keep B8.out)
                have H8 := Lib.hid (H6.out.keep B8.out)
                by_cases hpm : p < m
                · have hpz : (p : Int) < (m : Int) := by omega
                  have hp0 : (0 : Int) ≤ (p : Int) := by omega
                  have hmem := uA_mem (l := M) (i := p) (by rw [HM.out]; exact hpm)
                  have HI1 := Lib.hid (flat_into HGL.out hmem)
                  have HI2 := Lib.hid (flat_src HGL.out hmem)
                  have HI3 := Lib.hid (flat_of HGL.out hmem)
                  have HRI := Lib.hid (decide_eq_true (HGL.out.right _ hmem))
                  have HAT := Lib.hid (fun W (hW : RuAt W a6 m c6 M) => hW.at_ p hpm)
                  obtain ⟨b6, off6, e6, hb6, x0, x1, x2, x3, x4⟩ := H8.out.at_ p hpm
                  cases e6
                  clear hmem
                  have HRR := Lib.hid (fun W => gright_any (uA M p) W)
                  rw [HRI.out] at HRR
                  generalize uA M p = u at *
                  unfold ruV at HRR
                  have C := ointo u.dst X8.out
                  rw [HI1.out] at C
                  have HC := Lib.hid C
                  clear C
                  go_wp2_with fail
                  refine HC.out.mono ?_
                  rintro e V4 ⟨rfl, br⟩
                  have X9 := Lib.hid (X8.out.keep br)
                  have H9 := Lib.hid (H8.out.keep br)
                  have B9 := Lib.hid (B8.out.trans (br.mono B8.out.size))
                  clear br HC x0 x1 x2 x3 x4
                  simp only [Option.getD_some, Option.isSome_some]
                  unfold ruV
                  have br := (Below.refl V4.heap.size V4).alloc (Nat.le_refl _) (.cells #[.string (bs u.src), .string (bs u.dst), .int .i64 u.kind, .int .i64 u.size, .int .i64 u.align] 31)
                  have K8 := Lib.hid (BoxU.new 31 V4 u)
                  have X10 := Lib.hid (X9.out.keep br)
                  have H10 := Lib.hid (H9.out.keep br)
                  have B10 := Lib.hid (B9.out.trans (br.mono B9.out.size))
                  clear br X9 H9 B9
                  obtain ⟨b7, off7, e7, hb7, x0, x1, x2, x3, x4⟩ := HAT.out _ H10.out
                  cases e7
                  have C := ointo u.src X10.out
                  rw [HI2.out] at C
                  have HC := Lib.hid C
                  clear C
                  go_wp2_with fail
                  clear x0 x1 x2 x3 x4
                  generalize hW5 : V4.alloc (.cells #[.string (bs u.src), .string (bs u.dst), .int .i64 u.kind, .int .i64 u.size, .int .i64 u.align] 31) = V5 at *
                  clear hW5
                  generalize V4.heap.size = B8b at *
                  refine HC.out.mono ?_
                  rintro e V6 ⟨rfl, br⟩
                  replace X10 := Lib.hid (X10.out.keep br)
                  replace H10 := Lib.hid (H10.out.keep br)
                  replace K8 := Lib.hid (K8.out.keep br)
                  replace B10 := Lib.hid (B10.out.trans (br.mono B10.out.size))
                  clear br HC
                  simp only [Option.getD_none, Option.isSome_none]
                  unfold ruV
                  have br := (Below.refl V6.heap.size V6).alloc (Nat.le_refl _) (.cells #[.string (bs zeroU.src), .string (bs zeroU.dst), .int .i64 zeroU.kind, .int .i64 zeroU.size, .int .i64 zeroU.align] 31)
                  replace X10 := Lib.hid (X10.out.keep br)
                  replace H10 := Lib.hid (H10.out.keep br)
                  replace K8 := Lib.hid (K8.out.keep br)
                  replace B10 := Lib.hid (B10.out.trans (br.mono B10.out.size))
                  clear br
                  go_wp2_with fail
                  generalize hW7 : V6.alloc (.cells #[.string (bs zeroU.src), .string (bs zeroU.dst), .int .i64 zeroU.kind, .int .i64 zeroU.size, .int .i64 zeroU.align] 31) = V7 at *
                  clear hW7
                  generalize V6.heap.size = B10b at *
                  obtain ⟨b7, off7, e7, hb7, x0, x1, x2, x3, x4⟩ := HAT.out _ H10.out
                  cases e7
                  have y0 := K8.out.x0
                  have y1 := K8.out.x1
                  have y2 := K8.out.x2
                  have y3 := K8.out.x3
                  have y4 := K8.out.x4
                  have hne : ∀ W, (binOp .neq 31 (ruV u) (ruV u)).run Try.prog W = .ok (.bool false) W := fun W => by rw [run_ne_gu, decide_eq_true rfl]; rfl
                  unfold ruV at hne
                  have br := (Below.refl V7.heap.size V7).drew
                  have XD := Lib.hid (X10.out.keep br)
                  have BD := Lib.hid (B10.out.trans (br.mono B10.out.size))
                  have UD := Lib.hid (show U5 V7.drew b6 (off6 + p * 5) u from (show U5 V7 b6 (off6 + p * 5) u from ⟨x0, x1, x2, x3, x4⟩).tu (F := fun _ => False) (.of br) id)
                  have KD := Lib.hid (K8.out.keep br)
                  have ED := Lib.hid (ten UD.out KD.out)
                  clear br
                  go_region_held3 (fun w' => w'.cell? ⟨b6, off6 + p * 5, none⟩ = some (.string (bs u.src)) ∧ w'.cell? ⟨b6, off6 + p * 5 + 1, none⟩ = some (.string (bs u.dst)) ∧ w'.cell? ⟨b6, off6 + p * 5 + 2, none⟩ = some (.int .i64 u.kind) ∧ w'.cell? ⟨b6, off6 + p * 5 + 3, none⟩ = some (.int .i64 u.size) ∧ w'.cell? ⟨b6, off6 + p * 5 + 4, none⟩ = some (.int .i64 u.align) ∧ w'.cell? ⟨B8b, 0, none⟩ = some (.string (bs u.src)) ∧ w'.cell? ⟨B8b, 1, none⟩ = some (.string (bs u.dst)) ∧ w'.cell? ⟨B8b, 2, none⟩ = some (.int .i64 u.kind) ∧ w'.cell? ⟨B8b, 3, none⟩ = some (.int .i64 u.size) ∧ w'.cell? ⟨B8b, 4, none⟩ = some (.int .i64 u.align))
                    (first | exact ED.out | exact E1.out | exact E2.out | go_keep)
                    (first
                      | (go_at_call 27
                         (with_reducible refine (HRR.out V7.drew).mono ?_)
                         rintro e U1 ⟨rfl, br⟩
                         have X11 := Lib.hid (XD.out.keep br)
                         have B11 := Lib.hid (BD.out.trans (br.mono BD.out.size))
                         have UD1 := Lib.hid (UD.out.tu (F := fun _ => False) (.of br) id)
                         have KD1 := Lib.hid (KD.out.keep br)
                         have E1 := Lib.hid (ten UD1.out KD1.out)
                         have C := oof u.dst X11.out (Nat.le_trans HM4.out (by omega))
                         rw [HI3.out] at C
                         have HCO := Lib.hid C
                         clear br C)
                      | (go_at_call 25
                         (with_reducible refine HCO.out.mono ?_)
                         rintro e U2 ⟨v112, rfl, rr, br⟩
                         obtain ⟨a112, c112, e112, _, _⟩ := rr.shape
                         replace e112 : v112 = .slice a112 0 c112 := e112
                         subst e112
                         have B12 := Lib.hid (B11.out.trans (br.mono B11.out.size))
                         have UD2 := Lib.hid (UD1.out.tu (F := fun _ => False) (.of br) id)
                         have KD2 := Lib.hid (KD1.out.keep br)
                         have E2 := Lib.hid (ten UD2.out KD2.out)
                         clear br rr)
                      | fail)
                  rename_i hHeld
                  clear hHeld E1 E2 ED UD UD1 UD2 KD KD1 KD2 x0 x1 x2 x3 x4 y0 y1 y2 y3 y4 hne
                  go_wp2
                  go_roundw
                  case rel => first
                    | exact ⟨p + 1, by omega, by go_num, B12⟩
                    | exact ⟨_, _, _, _, _, _, _, _, _, _, _, _, _, _, _, _, _, _, _, _, _, _, _, _, _, _, _, _, _, _, _, _, _, _, _, _, _, _, _, _, _, _, _, _, _, _, _, _, _, _, _, _, _, _, _, _, _, _, _, _, _, _, _, _, ⟨p + 1, by omega, by go_num, B12⟩, rfl⟩
                    | exact ⟨_, _, _, _, _, _, _, _, _, _, _, _, _, _, _, _, _, _, _, _, _, _, _, _, _, _, _, _, _, _, _, _, _, _, _, _, _, _, _, _, _, _, _, _, _, _, _, _, _, _, _, _, _, _, _, _, _, _, _, _, _, _, _, _, _, ⟨p + 1, by omega, by go_num, B12⟩, rfl⟩
                    | exact ⟨_, _, _, _, _, _, _, _, _, _, _, _, _, _, _, _, _, _, _, _, _, _, _, _, _, _, _, _, _, _, _, _, _, _, _, _, _, _, _, _, _, _, _, _, _, _, _, _, _, _, _, _, _, _, _, _, _, _, _, _, _, _, _, _, _, _, ⟨p + 1, by omega, by go_num, B12⟩, rfl⟩
                    | exact ⟨_, _, _, _, _, _, _, _, _, _, _, _, _, _, _, _, _, _, _, _, _, _, _, _, _, _, _, _, _, _, _, _, _, _, _, _, _, _, _, _, _, _, _, _, _, _, _, _, _, _, _, _, _, _, _, _, _, _, _, _, _, _, _, _, _, _, _, ⟨p + 1, by omega, by go_num, B12⟩, rfl⟩
                    | exact ⟨_, _, _, _, _, _, _, _, _, _, _, _, _, _, _, _, _, _, _, _, _, _, _, _, _, _, _, _, _, _, _, _, _, _, _, _, _, _, _, _, _, _, _, _, _, _, _, _, _, _, _, _, _, _, _, _, _, _, _, _, _, _, _, _, _, _, _, _, ⟨p + 1, by omega, by go_num, B12⟩, rfl⟩
                    | exact ⟨_, _, _, _, _, _, _, _, _, _, _, _, _, _, _, _, _, _, _, _, _, _, _, _, _, _, _, _, _, _, _, _, _, _, _, _, _, _, _, _, _, _, _, _, _, _, _, _, _, _, _, _, _, _, _, _, _, _, _, _, _, _, _, _, _, _, _, _, _, ⟨p + 1, by omega, by go_num, B12⟩, rfl⟩
                    | exact ⟨_, _, _, _, _, _, _, _, _, _, _, _, _, _, _, _, _, _, _, _, _, _, _, _, _, _, _, _, _, _, _, _, _, _, _, _, _, _, _, _, _, _, _, _, _, _, _, _, _, _, _, _, _, _, _, _, _, _, _, _, _, _, _, _, _, _, _, _, _, _, ⟨p + 1, by omega, by go_num, B12⟩, rfl⟩
                    | exact ⟨_, _, _, _, _, _, _, _, _, _, _, _, _, _, _, _, _, _, _, _, _, _, _, _, _, _, _, _, _, _, _, _, _, _, _, _, _, _, _, _, _, _, _, _, _, _, _, _, _, _, _, _, _, _, _, _, _, _, _, _, _, _, _, _, _, _, _, _, _, _, _, ⟨p + 1, by omega, by go_num, B12⟩, rfl⟩
                    | exact ⟨_, _, _, _, _, _, _, _, _, _, _, _, _, _, _, _, _, _, _, _, _, _, _, _, _, _, _, _, _, _, _, _, _, _, _, _, _, _, _, _, _, _, _, _, _, _, _, _, _, _, _, _, _, _, _, _, _, _, _, _, _, _, _, _, _, _, _, _, _, _, _, _, ⟨p + 1, by omega, by go_num, B12⟩, rfl⟩
                    | exact ⟨_, _, _, _, _, _, _, _, _, _, _, _, _, _, _, _, _, _, _, _, _, _, _, _, _, _, _, _, _, _, _, _, _, _, _, _, _, _, _, _, _, _, _, _, _, _, _, _, _, _, _, _, _, _, _, _, _, _, _, _, _, _, _, _, _, _, _, _, _, _, _, _, _, ⟨p + 1, by omega, by go_num, B12⟩, rfl⟩
                    | exact ⟨_, _, _, _, _, _, _, _, _, _, _, _, _, _, _, _, _, _, _, _, _, _, _, _, _, _, _, _, _, _, _, _, _, _, _, _, _, _, _, _, _, _, _, _, _, _, _, _, _, _, _, _, _, _, _, _, _, _, _, _, _, _, _, _, _, _, _, _, _, _, _, _, _, _, ⟨p + 1, by omega, by go_num, B12⟩, rfl⟩
                    | exact ⟨_, _, _, _, _, _, _, _, _, _, _, _, _, _, _, _, _, _, _, _, _, _, _, _, _, _, _, _, _, _, _, _, _, _, _, _, _, _, _, _, _, _, _, _, _, _, _, _, _, _, _, _, _, _, _, _, _, _, _, _, _, _, _, ⟨p + 1, by omega, by go_num, B12⟩, rfl⟩
                    | exact ⟨_, _, _, _, _, _, _, _, _, _, _, _, _, _, _, _, _, _, _, _, _, _, _, _, _, _, _, _, _, _, _, _, _, _, _, _, _, _, _, _, _, _, _, _, _, _, _, _, _, _, _, _, _, _, _, _, _, _, _, _, _, _, ⟨p + 1, by omega, by go_num, B12⟩, rfl⟩
                    | exact ⟨_, _, _, _, _, _, _, _, _, _, _, _, _, _, _, _, _, _, _, _, _, _, _, _, _, _, _, _, _, _, _, _, _, _, _, _, _, _, _, _, _, _, _, _, _, _, _, _, _, _, _, _, _, _, _, _, _, _, _, _, _, ⟨p + 1, by omega, by go_num, B12⟩, rfl⟩
                    | exact ⟨_, _, _, _, _, _, _, _, _, _, _, _, _, _, _, _, _, _, _, _, _, _, _, _, _, _, _, _, _, _, _, _, _, _, _, _, _, _, _, _, _, _, _, _, _, _, _, _, _, _, _, _, _, _, _, _, _, _, _, _, ⟨p + 1, by omega, by go_num, B12⟩, rfl⟩
                    | exact ⟨_, _, _, _, _, _, _, _, _, _, _, _, _, _, _, _, _, _, _, _, _, _, _, _, _, _, _, _, _, _, _, _, _, _, _, _, _, _, _, _, _, _, _, _, _, _, _, _, _, _, _, _, _, _, _, _, _, _, _, ⟨p + 1, by omega, by go_num, B12⟩, rfl⟩
                    | exact ⟨_, _, _, _, _, _, _, _, _, _, _, _, _, _, _, _, _, _, _, _, _, _, _, _, _, _, _, _, _, _, _, _, _, _, _, _, _, _, _, _, _, _, _, _, _, _, _, _, _, _, _, _, _, _, _, _, _, _, ⟨p + 1, by omega, by go_num, B12⟩, rfl⟩
                    | exact ⟨_, _, _, _, _, _, _, _, _, _, _, _, _, _, _, _, _, _, _, _, _, _, _, _, _, _, _, _, _, _, _, _, _, _, _, _, _, _, _, _, _, _, _, _, _, _, _, _, _, _, _, _, _, _, _, _, _, ⟨p + 1, by omega, by go_num, B12⟩, rfl⟩
                    | exact ⟨_, _, _, _, _, _, _, _, _, _, _, _, _, _, _, _, _, _, _, _, _, _, _, _, _, _, _, _, _, _, _, _, _, _, _, _, _, _, _, _, _, _, _, _, _, _, _, _, _, _, _, _, _, _, _, _, ⟨p + 1, by omega, by go_num, B12⟩, rfl⟩
                    | exact ⟨_, _, _, _, _, _, _, _, _, _, _, _, _, _, _, _, _, _, _, _, _, _, _, _, _, _, _, _, _, _, _, _, _, _, _, _, _, _, _, _, _, _, _, _, _, _, _, _, _, _, _, _, _, _, _, ⟨p + 1, by omega, by go_num, B12⟩, rfl⟩
                    | exact ⟨_, _, _, _, _, _, _, _, _, _, _, _, _, _, _, _, _, _, _, _, _, _, _, _, _, _, _, _, _, _, _, _, _, _, _, _, _, _, _, _, _, _, _, _, _, _, _, _, _, _, _, _, _, _, ⟨p + 1, by omega, by go_num, B12⟩, rfl⟩
                    | exact ⟨_, _, _, _, _, _, _, _, _, _, _, _, _, _, _, _, _, _, _, _, _, _, _, _, _, _, _, _, _, _, _, _, _, _, _, _, _, _, _, _, _, _, _, _, _, _, _, _, _, _, _, _, _, ⟨p + 1, by omega, by go_num, B12⟩, rfl⟩
                    | exact ⟨_, _, _, _, _, _, _, _, _, _, _, _, _, _, _, _, _, _, _, _, _, _, _, _, _, _, _, _, _, _, _, _, _, _, _, _, _, _, _, _, _, _, _, _, _, _, _, _, _, _, _, _, ⟨p + 1, by omega, by go_num, B12⟩, rfl⟩
                    | exact ⟨_, _, _, _, _, _, _, _, _, _, _, _, _, _, _, _, _, _, _, _, _, _, _, _, _, _, _, _, _, _, _, _, _, _, _, _, _, _, _, _, _, _, _, _, _, _, _, _, _, _, _, ⟨p + 1, by omega, by go_num, B12⟩, rfl⟩
                  case measure => simp [intOf]; omega
                · have hpz : ¬ (p : Int) < (m : Int) := by omega
                  go_wp2
                  go_roundw
                  case rel => exact ⟨j + 1, F2, M, by omega, by go_num, X8, Lib.hid (Nat.le_trans HM4.out (Nat.le_refl _))⟩
                  case measure => simp [intOf]; omega

        · rw [decide_eq_false hq] at HLI
          clear hq
          go_wp2_with fail
          clear c1 c2 c3 c4 c5 k0 x0 x1 x2 x3 x4
          generalize hW1 : wr.alloc (.cells #[.int .i64 kk, .string (bs q.src), .string (bs q.dst), .int .i64 q.kind, .int .i64 q.size, .int .i64 q.align] 33) = W1 at *
          clear hW1
          refine (HLI.out _).mono ?_
          rintro e V1 ⟨rfl, br⟩
          have X3 := Lib.hid (X2.out.keep br)
          clear br X X2 HLI P
          go_wp2
          go_roundw
          case rel => exact ⟨j + 1, F, L, by omega, by go_num, X3, Lib.hid (by omega)⟩
          case measure => simp [intOf]; omega
      · have h40z : ¬ (j : Int) < 60 := by omega
        go_wp2_with fail
        refine (known11_any _).mono ?_
        rintro e V9 ⟨rfl, br⟩
        have X9 := Lib.hid (X.out.keep br)
        go_wp2
        go_ret
        exact ⟨rfl, X9.out.bel⟩

    · have hjz : ¬ (j : Int) < (n : Int) := by omega
      go_wp2_with fail
      refine (known11_any _).mono ?_
      rintro e V9 ⟨rfl, br⟩
      have X9 := Lib.hid (X.out.keep br)
      go_wp2
      go_ret
      exact ⟨rfl, X9.out.bel⟩


set_option maxRecDepth 100000 in
theorem lifted (os : Os) (started : os.Started) (H : Type) (enc : TypeId × Value → H) :
    ReturnsInHanded {} Try.checked os 4 .any (Rows.graphFlatSpec.pre6 enc Try.prog Try.f4 Rows.graphFlatRow.domain false) (Rows.graphFlatSpec.post enc Try.prog Try.f4 false true false false) := by
  refine returnsInHanded_of_change (C := Try.checked) own started (by kernel_rfl) Try.func4
    (ChangeSpec.witness6 (enc := enc) (C := Try.checked) false ⟨#[], #[.slice none 0 0], []⟩ 8 (by kernel_rfl) (by kernel_rfl) (by kernel_rfl) (by kernel_rfl)) ?_
  intro W base args ds gs before hval0 hW hcnd _
  have hval : ∀ (j : Nat) t v, Try.f4.params[j]? = some t → args[j]? = some v → Value.okWide Try.prog W .any base t v := hval0
  have hW' := hW
  obtain ⟨p, q, hA0, hV, rfl, hfz, hnd⟩ := hW
  have hA : DataW.TrodAll enc Try.prog W 0 (fun _ => true) true Try.f4.params.toList args.toList ds p := hA0
  rw [Try.params4] at hA hval
  obtain ⟨v0, vs0, d0, ds0, p0, q0, hargs, rfl, rfl, h0, r0⟩ := trodAll_cons hA
  obtain ⟨rfl, rfl, rfl⟩ := trodAll_nil r0
  obtain rfl : args = #[v0] := by cases args; simp_all
  obtain ⟨rfl, rfl⟩ := trodVars_none hV
  obtain ⟨a0, len0, cap0, rfl⟩ := okWide_slice Try.underlying22 (hval 0 22 v0 rfl rfl)
  have k0 := h0
  have lt0 : ∀ x ∈ p0, x.block < W.heap.size := by obtain ⟨m, hm⟩ := k0; exact DataW.trod_lt m _ _ _ hm
  obtain ⟨z0, w0⟩ := open_ops11 h0
  clear hA0 hval0
  refine (walk a0 len0 cap0 z0 W w0).mono fun e W' ⟨he, bel⟩ => ?_
  subst he
  exact ⟨_, rfl, _, _, _, [], _, [], hW', trodAll_mk1 (shut_bool Try.underlying4 _), (trodAll_cons_mk (Below.trod laidOut (by kernel_rfl) (of_decide_eq_true (by kernel_rfl)) k0 bel lt0) trodAll_mk0), rfl, bel.frame _, fun h => by cases h⟩

theorem over : Rows.graphFlatRow.holds Try.pinned (OpenSpec.ofChange Rows.graphFlatSpec) :=
  OpenClaim.holds_of_wide 4 Try.f4 rfl rfl rfl rfl rfl rfl rfl ⟨rfl, rfl, rfl, rfl, rfl⟩ rfl rfl rfl rfl rfl (by kernel_rfl) Try.func4 (by kernel_rfl)
    (of_decide_eq_true (by kernel_rfl)) (by unfold Func.isWrapper; first | (rw [if_pos (by decide +kernel)]; kernel_rfl) | (rw [if_neg (by decide +kernel)]; exact ⟨rfl, rfl⟩))
    (fun os started H enc _ => lifted os started H enc)

theorem proved : Rows.GraphFlatSaid := over
end graphFlat
theorem graphFlat_holds : Rows.GraphFlatSaid := graphFlat.proved
#print axioms graphFlat_holds
end Go.Proofs.Ytlogkhifgkkjeaa
