/-
  The statement 'GraphPlays' of layer 11: whatever is added and dropped, in whatever order: what is told, and which rules there are, is as the document says.
  No condition on the arguments.
-/
import Derived.Test.YtlogkhifgkkjeaaGKnown
import Derived.Test.YtlogkhifgkkjeaaGArgs
import Derived.Test.YtlogkhifgkkjeaaRows
import Derived.Test.YtlogkhifgkkjeaaGPlay
import Derived.Deep.DeepCutAuto
import Derived.Deep.CutBlock
import Derived.ChangeOld
namespace Go.Proofs.Ytlogkhifgkkjeaa
namespace graphPlays
open Go.ChangeShapes Go.WideShapes Go.ChangeAt Go.RowKit
open Go.ChangeMaps (open_string shut_string)
set_option linter.unusedVariables false
set_option linter.unusedSimpArgs false

theorem own : ownKnob Try.prog.godebug = none := by kernel_rfl

theorem five {F : Nat → Prop} {w' : World} {r B : Nat} {k : Int} {q : Ru} (h : Pb F w' r B k q) : w'.cell? ⟨B, 1, none⟩ = some (.string (bs q.src)) ∧ w'.cell? ⟨B, 2, none⟩ = some (.string (bs q.dst)) ∧ w'.cell? ⟨B, 3, none⟩ = some (.int .i64 q.kind) ∧ w'.cell? ⟨B, 4, none⟩ = some (.int .i64 q.size) ∧ w'.cell? ⟨B, 5, none⟩ = some (.int .i64 q.align) :=
  ⟨h.p.c1, h.p.c2, h.p.c3, h.p.c4, h.p.c5⟩
theorem nine {w' : World} {B C : Nat} {q : Ru} (h : BoxU 31 w' B q) (g : BoxU 38 w' C q) : w'.cell? ⟨B, 0, none⟩ = some (.string (bs q.src)) ∧ w'.cell? ⟨B, 1, none⟩ = some (.string (bs q.dst)) ∧ w'.cell? ⟨B, 2, none⟩ = some (.int .i64 q.kind) ∧ w'.cell? ⟨B, 3, none⟩ = some (.int .i64 q.size) ∧ w'.cell? ⟨B, 4, none⟩ = some (.int .i64 q.align) ∧ w'.cell? ⟨C, 0, none⟩ = some (.string (bs q.src)) ∧ w'.cell? ⟨C, 1, none⟩ = some (.string (bs q.dst)) ∧ w'.cell? ⟨C, 2, none⟩ = some (.int .i64 q.kind) ∧ w'.cell? ⟨C, 3, none⟩ = some (.int .i64 q.size) ∧ w'.cell? ⟨C, 4, none⟩ = some (.int .i64 q.align) :=
  ⟨h.x0, h.x1, h.x2, h.x3, h.x4, g.x0, g.x1, g.x2, g.x3, g.x4⟩
theorem sixteen {F : Nat → Prop} {w' : World} {r B5 B14 B16 : Nat} {k : Int} {q q14 : Ru} {a' : Option Addr} {n' c' : Nat} (h : Pb F w' r B5 k q) (g : BoxU 31 w' B14 q14) (e : BoxU 38 w' B16 q14) (d : w'.cell? ⟨r, 0, none⟩ = some (.slice a' n' c')) : w'.cell? ⟨B5, 1, none⟩ = some (.string (bs q.src)) ∧ w'.cell? ⟨B5, 2, none⟩ = some (.string (bs q.dst)) ∧ w'.cell? ⟨B5, 3, none⟩ = some (.int .i64 q.kind) ∧ w'.cell? ⟨B5, 4, none⟩ = some (.int .i64 q.size) ∧ w'.cell? ⟨B5, 5, none⟩ = some (.int .i64 q.align) ∧ w'.cell? ⟨B14, 0, none⟩ = some (.string (bs q14.src)) ∧ w'.cell? ⟨B14, 1, none⟩ = some (.string (bs q14.dst)) ∧ w'.cell? ⟨B14, 2, none⟩ = some (.int .i64 q14.kind) ∧ w'.cell? ⟨B14, 3, none⟩ = some (.int .i64 q14.size) ∧ w'.cell? ⟨B14, 4, none⟩ = some (.int .i64 q14.align) ∧ w'.cell? ⟨B16, 0, none⟩ = some (.string (bs q14.src)) ∧ w'.cell? ⟨B16, 1, none⟩ = some (.string (bs q14.dst)) ∧ w'.cell? ⟨B16, 2, none⟩ = some (.int .i64 q14.kind) ∧ w'.cell? ⟨B16, 3, none⟩ = some (.int .i64 q14.size) ∧ w'.cell? ⟨B16, 4, none⟩ = some (.int .i64 q14.align) ∧ w'.cell? ⟨r, 0, none⟩ = some (.slice a' n' c') :=
  ⟨h.p.c1, h.p.c2, h.p.c3, h.p.c4, h.p.c5, g.x0, g.x1, g.x2, g.x3, g.x4, e.x0, e.x1, e.x2, e.x3, e.x4, d⟩
set_option maxRecDepth 100000 in
set_option maxHeartbeats 64000000 in
theorem walk (a : Option Addr) (n c : Nat) (z : List OpG) (kb : ByteArray) (w : World) (h : OpAt w a n c z) (hkb : kb.size ≤ maxLen) :
    Calls Try.prog 3 #[.slice a n c, .string kb] w fun e w' => e = .returned (.bool true) ∧ Below w.heap.size w w' := by
  obtain ⟨kt, rfl⟩ : ∃ kt, kb = bs kt := ⟨tx kb, (bs_tx _).symm⟩
  have HOp := Lib.hid h
  clear h
  go_enter Try.func3, Try.ntmps3
  go_wp2_with fail
  refine (gnew_any _).mono ?_
  rintro e W2 ⟨x, bi, bf, F0, rfl, hg, hb, hx, hF⟩
  have X : Hid (GOwn w.heap.size w W2 x bi bf F0 []) := Lib.hid (GOwn.new (Below.refl _ _) (Nat.le_refl _) hg hb hx hF)
  clear hg hb hx hF
  have br := (Below.refl W2.heap.size W2).alloc (Nat.le_refl _) (.cells #[.slice none 0 0] 28)
  have T : Hid (Duo w.heap.size w (W2.alloc (.cells #[.slice none 0 0] 28)) x bi bf F0 [] W2.heap.size none 0 0 []) := Lib.hid
    ⟨X.out.keep br, ⟨heap_new W2 _, RuAt.nil _ _ _, fun _ e => by cases e⟩, X.out.sz, fun f => by have := X.out.gr.lt _ f; omega, fun e => by have := X.out.gr.xlt; omega, fun _ e => by cases e⟩
  clear br X
  by_cases hk : (bs kt).size ≤ 100
  · have hkz : ¬ ((bs kt).size : Int) > 100 := by omega
    go_wp2
    generalize hW3 : W2.alloc (.cells #[.slice none 0 0] 28) = W3 at *
    clear hW3
    generalize W2.heap.size = r at *
    go_loopw [5, 7] (fun gp i wr => ∃ (j x bi bf : Nat) (F : Nat → Prop) (L : List Ru) (a1 : Option Addr) (n1 c1 : Nat), j ≤ 60 ∧ i = .int .i64 (j : Int) ∧ gp = .pointer (some ⟨x, 0, none⟩) ∧ Hid (Duo w.heap.size w wr x bi bf F L r a1 n1 c1 L) ∧ Hid (L.length ≤ j)) (fun _ i _ => 60 - (intOf i).toNat)
    case atStart => exact ⟨0, x, bi, bf, F0, [], none, 0, 0, by omega, rfl, rfl, T, Lib.hid (Nat.le_refl _)⟩
    case round =>
      obtain ⟨j, x, bi, bf, F, L, a1, n1, c1, hj, rfl, rfl, T, HL⟩ := hrel
      have hl := HL.out
      have HGL := Lib.hid T.out.g.gr.good
      have hj0 : (0 : Int) ≤ (j : Int) := by omega
      by_cases hjn : j < n
      · have hjz : (j : Int) < (n : Int) := by omega
        by_cases h40 : j < 60
        · have h40z : (j : Int) < 60 := by omega
          obtain ⟨b, off, rfl, hb, k0, x0, x1, x2, x3, x4⟩ := (HOp.out.keep T.out.g.bel).at_ j hjn
          generalize (opG z j).r = q at *
          generalize (opG z j).k = kk at *
          have HLI := Lib.hid (fun W => olight q W)
          unfold ruV at HLI
          have br := (Below.refl wr.heap.size wr).alloc (Nat.le_refl _) (.cells #[.int .i64 kk, .string (bs q.src), .string (bs q.dst), .int .i64 q.kind, .int .i64 q.size, .int .i64 q.align] 33)
          have P : Hid (Pb F (wr.alloc (.cells #[.int .i64 kk, .string (bs q.src), .string (bs q.dst), .int .i64 q.kind, .int .i64 q.size, .int .i64 q.align] 33)) r wr.heap.size kk q) := Lib.hid ⟨OpBox.new wr kk q, fun f => by have := T.out.g.gr.lt _ f; omega, fun e => by have := T.out.d.lt; omega⟩
          have T2 := Lib.hid (T.out.keep br)
          have c1 := P.out.p.c1
          have c2 := P.out.p.c2
          have c3 := P.out.p.c3
          have c4 := P.out.p.c4
          have c5 := P.out.p.c5
          clear br
          by_cases hq : lightU q
          · rw [decide_eq_true hq] at HLI
            clear hq
            go_wp2_with fail
            clear c1 c2 c3 c4 c5 k0 x0 x1 x2 x3 x4
            generalize hW1 : wr.alloc (.cells #[.int .i64 kk, .string (bs q.src), .string (bs q.dst), .int .i64 q.kind, .int .i64 q.size, .int .i64 q.align] 33) = W1 at *
            clear hW1
            generalize wr.heap.size = B5 at *
            refine (HLI.out _).mono ?_
            rintro e V1 ⟨rfl, br⟩
            have T3 := Lib.hid (T2.out.keep br)
            have P3 := Lib.hid (P.out.keep br)
            clear br T T2 P HLI
            have c0 := P3.out.p.c0
            have c1 := P3.out.p.c1
            have c2 := P3.out.p.c2
            have c3 := P3.out.p.c3
            have c4 := P3.out.p.c4
            have c5 := P3.out.p.c5
            go_upto_block 2 with fail
            go_cut [5] (fun gp wx => ∃ (x' bi' bf' : Nat) (F' : Nat → Prop) (M : List Ru) (a' : Option Addr) (n' c' : Nat), gp = .pointer (some ⟨x', 0, none⟩) ∧ Hid (Duo w.heap.size w wx x' bi' bf' F' M r a' n' c' M) ∧ Hid (Pb F' wx r B5 kk q) ∧ Hid (M.length ≤ j + 1))
            case first =>
              by_cases hk0 : kk = 0
              · subst hk0
                go_wp2_with fail
                have br := (Below.refl V1.heap.size V1).drew
                have TD := Lib.hid (T3.out.keep br)
                have PD := Lib.hid (P3.out.keep br)
                have ED := Lib.hid (five PD.out)
                clear br
                go_region_held3 (fun w' => w'.cell? ⟨B5, 1, none⟩ = some (.string (bs q.src)) ∧ w'.cell? ⟨B5, 2, none⟩ = some (.string (bs q.dst)) ∧ w'.cell? ⟨B5, 3, none⟩ = some (.int .i64 q.kind) ∧ w'.cell? ⟨B5, 4, none⟩ = some (.int .i64 q.size) ∧ w'.cell? ⟨B5, 5, none⟩ = some (.int .i64 q.align))
                  (first | exact EE.out | exact ED.out | go_keep)
                  (first
                    | (go_at_call 12
                       have C := tadd q TD.out PD.out (by omega)
                       unfold ruV at C
                       (with_reducible refine C.mono ?_)
                       rintro e U1 ⟨rfl, F1, t, p⟩
                       replace TD := Lib.hid t
                       replace PD := Lib.hid p
                       have EE := Lib.hid (five p)
                       clear t p C)
                    | (go_at_call 14
                       have C := fun W => one_any q W
                       unfold ruV at C
                       (with_reducible refine (C _).mono ?_)
                       rintro e U2 ⟨rfl, br⟩
                       have t := TD.out.keep br
                       have p := PD.out.keep br
                       clear br
                       replace TD := Lib.hid t
                       replace PD := Lib.hid p
                       have EE := Lib.hid (five p)
                       clear t p C)
                    | (go_at_call 13
                       have C := tradd q TD.out PD.out (by omega) HGL.out
                       unfold ruV at C
                       (with_reducible refine C.mono ?_)
                       rintro e U3 ⟨rfl, a3, n3, c3, t, p⟩
                       replace TD := Lib.hid t
                       replace PD := Lib.hid p
                       have EE := Lib.hid (five p)
                       clear t p C)
                    | fail)
                all_goals
                  rename_i hHeld
                  clear hHeld EE ED
                  go_wp2_with fail
                  go_meet
                  exact ⟨_, _, _, _, _, _, _, _, rfl, TD, PD, Lib.hid (by have := addU_len L q; omega)⟩

              · have hk0z : (kk == 0) = false := by simpa using hk0
                by_cases hk1 : kk = 1
                · subst hk1
                  have c1' := P3.out.p.c1
                  have c2' := P3.out.p.c2
                  generalize hde : dropE L q.src q.dst = e9
                  generalize hdr : dropR L q.src q.dst = q9
                  have C := tdrop q.src q.dst T3.out P3.out (by omega)
                  rw [hde, hdr] at C
                  have HC := Lib.hid C
                  have HDE := Lib.hid hde
                  have HDR := Lib.hid hdr
                  clear C hde hdr
                  go_wp2_with fail
                  refine HC.out.mono ?_
                  rintro e V2 ⟨rfl, F1, t, p⟩
                  have T4 := Lib.hid t
                  have P4 := Lib.hid p
                  clear t p HC c1' c2'
                  unfold ruV
                  have br := (Below.refl V2.heap.size V2).alloc (Nat.le_refl _) (.cells #[.string (bs q9.src), .string (bs q9.dst), .int .i64 q9.kind, .int .i64 q9.size, .int .i64 q9.align] 31)
                  have K9 := Lib.hid (BoxU.new 31 V2 q9)
                  have HR9 := Lib.hid (show V2.heap.size ≠ r from fun e => by have := T4.out.d.lt; omega)
                  replace T4 := Lib.hid (T4.out.keep br)
                  replace P4 := Lib.hid (P4.out.keep br)
                  clear br
                  have c1' := P4.out.p.c1
                  have c2' := P4.out.p.c2
                  go_wp2_with fail
                  clear c1' c2'
                  generalize hV3 : V2.alloc (.cells #[.string (bs q9.src), .string (bs q9.dst), .int .i64 q9.kind, .int .i64 q9.size, .int .i64 q9.align] 31) = V3 at *
                  clear hV3
                  generalize V2.heap.size = B9 at *
                  have C := trdrop q.src q.dst T4.out P4.out (by omega)
                  rw [HDE.out, HDR.out] at C
                  have HC := Lib.hid C
                  clear C
                  refine HC.out.mono ?_
                  rintro e V4 ⟨rfl, a3, n3, c3, t, p, tu⟩
                  have T5 := Lib.hid t
                  have P5 := Lib.hid p
                  replace K9 := Lib.hid (K9.out.tu tu HR9.out)
                  clear t p tu HC HR9 T4 P4
                  unfold ruV
                  have br := (Below.refl V4.heap.size V4).alloc (Nat.le_refl _) (.cells #[.string (bs q9.src), .string (bs q9.dst), .int .i64 q9.kind, .int .i64 q9.size, .int .i64 q9.align] 38)
                  have K11 := Lib.hid (BoxU.new 38 V4 q9)
                  replace T5 := Lib.hid (T5.out.keep br)
                  replace P5 := Lib.hid (P5.out.keep br)
                  replace K9 := Lib.hid (K9.out.keep br)
                  clear br
                  go_wp2_with fail
                  generalize hV5 : V4.alloc (.cells #[.string (bs q9.src), .string (bs q9.dst), .int .i64 q9.kind, .int .i64 q9.size, .int .i64 q9.align] 38) = V5 at *
                  clear hV5
                  generalize V4.heap.size = B11 at *
                  have br := (Below.refl V5.heap.size V5).drew
                  have TD := Lib.hid (T5.out.keep br)
                  have PD := Lib.hid (P5.out.keep br)
                  have ED := Lib.hid (nine (K9.out.keep br) (K11.out.keep br))
                  have HN := Lib.hid (fun W' (b : Below V5.drew.heap.size V5.drew W') => nine ((K9.out.keep br).keep b) ((K11.out.keep br).keep b))
                  clear br
                  have y0 := K9.out.x0
                  have y1 := K9.out.x1
                  have y2 := K9.out.x2
                  have y3 := K9.out.x3
                  have y4 := K9.out.x4
                  have z0 := K11.out.x0
                  have z1 := K11.out.x1
                  have z2 := K11.out.x2
                  have z3 := K11.out.x3
                  have z4 := K11.out.x4
                  have hne : ∀ W, (binOp .neq 38 (ruV q9) (ruV q9)).run Try.prog W = .ok (.bool false) W := fun W => by rw [run_ne_du, decide_eq_true rfl]; rfl
                  unfold ruV at hne
                  go_region_held3 (fun w' => w'.cell? ⟨B9, 0, none⟩ = some (.string (bs q9.src)) ∧ w'.cell? ⟨B9, 1, none⟩ = some (.string (bs q9.dst)) ∧ w'.cell? ⟨B9, 2, none⟩ = some (.int .i64 q9.kind) ∧ w'.cell? ⟨B9, 3, none⟩ = some (.int .i64 q9.size) ∧ w'.cell? ⟨B9, 4, none⟩ = some (.int .i64 q9.align) ∧ w'.cell? ⟨B11, 0, none⟩ = some (.string (bs q9.src)) ∧ w'.cell? ⟨B11, 1, none⟩ = some (.string (bs q9.dst)) ∧ w'.cell? ⟨B11, 2, none⟩ = some (.int .i64 q9.kind) ∧ w'.cell? ⟨B11, 3, none⟩ = some (.int .i64 q9.size) ∧ w'.cell? ⟨B11, 4, none⟩ = some (.int .i64 q9.align))
                    (first | exact EE.out | exact ED.out | go_keep)
                    (first
                      | (go_at_call 14
                         have C := fun W => one_any q9 W
                         unfold ruV at C
                         (with_reducible refine (C _).mono ?_)
                         rintro e U2 ⟨rfl, br⟩
                         have t := TD.out.keep br
                         have p := PD.out.keep br
                         replace TD := Lib.hid t
                         replace PD := Lib.hid p
                         have EE := Lib.hid (HN.out _ br)
                         clear t p C br)
                      | fail)
                  all_goals
                    rename_i hHeld
                    clear hHeld EE ED y0 y1 y2 y3 y4 z0 z1 z2 z3 z4 hne HN
                    go_wp2_with fail
                    go_meet
                    exact ⟨_, _, _, _, _, _, _, _, rfl, TD, PD, Lib.hid (by have := dropU_len L q.src q.dst; omega)⟩

                · have hk1z : (kk == 1) = false := by simpa using hk1
                  by_cases hk2 : kk = 2
                  · subst hk2
                    go_wp2_with fail
                    have br := (Below.refl V1.heap.size V1).drew
                    have TD := Lib.hid (T3.out.keep br)
                    have PD := Lib.hid (P3.out.keep br)
                    have ED := Lib.hid (five PD.out)
                    clear br
                    go_region_held3 (fun w' => w'.cell? ⟨B5, 1, none⟩ = some (.string (bs q.src)) ∧ w'.cell? ⟨B5, 2, none⟩ = some (.string (bs q.dst)) ∧ w'.cell? ⟨B5, 3, none⟩ = some (.int .i64 q.kind) ∧ w'.cell? ⟨B5, 4, none⟩ = some (.int .i64 q.size) ∧ w'.cell? ⟨B5, 5, none⟩ = some (.int .i64 q.align))
                      (first | exact EE.out | exact ED.out | go_keep)
                      (first
                        | (go_at_call 17
                           have C := tgone q.src TD.out PD.out (by omega)
                           (with_reducible refine C.mono ?_)
                           rintro e U1 ⟨rfl, F1, t, p⟩
                           replace TD := Lib.hid t
                           replace PD := Lib.hid p
                           have EE := Lib.hid (five p)
                           clear t p C)
                        | (go_at_call 18
                           have C := trgone q.src TD.out PD.out (by omega)
                           (with_reducible refine C.mono ?_)
                           rintro e U3 ⟨rfl, a3, n3, c3, t, p⟩
                           replace TD := Lib.hid t
                           replace PD := Lib.hid p
                           have EE := Lib.hid (five p)
                           clear t p C)
                        | fail)
                    all_goals
                      rename_i hHeld
                      clear hHeld EE ED
                      go_wp2_with fail
                      go_meet
                      exact ⟨_, _, _, _, _, _, _, _, rfl, TD, PD, Lib.hid (by have := goneL_le L q.src; omega)⟩

                  · have hk2z : (kk == 2) = false := by simpa using hk2
                    go_wp2_with fail
                    refine (tcopy T3.out P3.out (by omega)).mono ?_
                    rintro e V2 ⟨y, ci, cf, G, rfl, t1, p1, t2, p2, ap⟩
                    have T4 := Lib.hid t1
                    have P4 := Lib.hid p1
                    have T5 := Lib.hid t2
                    have P5 := Lib.hid p2
                    have AP := Lib.hid ap
                    clear t1 p1 t2 p2 ap
                    have c1' := P5.out.p.c1
                    go_wp2_with fail
                    refine (tgone2 q.src T4.out P4.out T5.out P5.out AP.out (by omega)).mono ?_
                    rintro e V3 ⟨rfl, t, p⟩
                    have TD := Lib.hid t
                    have PD := Lib.hid p
                    clear t p T4 P4 T5 P5 AP c1'
                    go_wp2_with fail
                    go_meet
                    exact ⟨_, _, _, _, _, _, _, _, rfl, TD, PD, Lib.hid (by omega)⟩

            case rest =>
              obtain ⟨x', bi', bf', F', M, a', n', c', rfl, T, P, HM⟩ := hcut
              clear c0 c1 c2 c3 c4 c5 T3 P3
              have hM := HM.out
              have HM1 := Lib.hid (show M.length ≤ 1000 from by omega)
              have HN1 := Lib.hid (show n' ≤ 1000 from by rw [← T.out.len]; omega)
              have C := ointo kt T.out.g
              have HC := Lib.hid C
              clear C
              go_wp2_with fail
              refine HC.out.mono ?_
              rintro e V2 ⟨rfl, br⟩
              replace T := Lib.hid (T.out.keep br)
              replace P := Lib.hid (P.out.keep br)
              clear br HC
              obtain ⟨q14, h14⟩ : ∃ q14, (intoL M kt).getD zeroU = q14 := ⟨_, rfl⟩
              obtain ⟨b15, h15⟩ : ∃ b15, (intoL M kt).isSome = b15 := ⟨_, rfl⟩
              have H14 := Lib.hid h14
              have H15 := Lib.hid h15
              rw [h14, h15]
              clear h14 h15
              unfold ruV
              have br := (Below.refl V2.heap.size V2).alloc (Nat.le_refl _) (.cells #[.string (bs q14.src), .string (bs q14.dst), .int .i64 q14.kind, .int .i64 q14.size, .int .i64 q14.align] 31)
              have K14 := Lib.hid (BoxU.new 31 V2 q14)
              replace T := Lib.hid (T.out.keep br)
              replace P := Lib.hid (P.out.keep br)
              clear br
              go_wp2_with fail
              generalize hV3 : V2.alloc (.cells #[.string (bs q14.src), .string (bs q14.dst), .int .i64 q14.kind, .int .i64 q14.size, .int .i64 q14.align] 31) = V3 at *
              clear hV3
              generalize V2.heap.size = B14 at *
              have C := rinto11_any V3 r a' n' c' M kt T.out.d HN1.out
              rw [H14.out, H15.out] at C
              have HC := Lib.hid C
              clear C
              refine HC.out.mono ?_
              rintro e V4 ⟨rfl, br⟩
              replace T := Lib.hid (T.out.keep br)
              replace P := Lib.hid (P.out.keep br)
              replace K14 := Lib.hid (K14.out.keep br)
              clear br HC
              unfold ruV
              have br := (Below.refl V4.heap.size V4).alloc (Nat.le_refl _) (.cells #[.string (bs q14.src), .string (bs q14.dst), .int .i64 q14.kind, .int .i64 q14.size, .int .i64 q14.align] 38)
              have K16 := Lib.hid (BoxU.new 38 V4 q14)
              replace T := Lib.hid (T.out.keep br)
              replace P := Lib.hid (P.out.keep br)
              replace K14 := Lib.hid (K14.out.keep br)
              clear br
              go_wp2_with fail
              generalize hV5 : V4.alloc (.cells #[.string (bs q14.src), .string (bs q14.dst), .int .i64 q14.kind, .int .i64 q14.size, .int .i64 q14.align] 38) = V5 at *
              clear hV5
              generalize V4.heap.size = B16 at *
              have br := (Below.refl V5.heap.size V5).drew
              have TD := Lib.hid (T.out.keep br)
              have HS16 := Lib.hid (fun W' (b : Below V5.drew.heap.size V5.drew W') => sixteen ((P.out.keep br).keep b) ((K14.out.keep br).keep b) ((K16.out.keep br).keep b) ((T.out.keep br).keep b).d.cell.c0)
              have ED := Lib.hid (HS16.out _ (Below.refl _ _))
              have BR := Lib.hid (Below.refl V5.drew.heap.size V5.drew)
              have hne : ∀ W, (binOp .neq 38 (ruV q14) (ruV q14)).run Try.prog W = .ok (.bool false) W := fun W => by rw [run_ne_du, decide_eq_true rfl]; rfl
              have HRG := Lib.hid (fun W => gright_any q W)
              have HRD := Lib.hid (fun W => rright11_any q W)
              have HO1 := Lib.hid (fun W => one_any q14 W)
              have HO2 := Lib.hid (fun W => one_any q W)
              generalize decide (rightU q) = bq at HRG HRD
              unfold ruV at hne HRG HRD HO1 HO2
              clear br T P K14 K16 H14 H15 hM
              go_region_held3 (fun w' => w'.cell? ⟨B5, 1, none⟩ = some (.string (bs q.src)) ∧ w'.cell? ⟨B5, 2, none⟩ = some (.string (bs q.dst)) ∧ w'.cell? ⟨B5, 3, none⟩ = some (.int .i64 q.kind) ∧ w'.cell? ⟨B5, 4, none⟩ = some (.int .i64 q.size) ∧ w'.cell? ⟨B5, 5, none⟩ = some (.int .i64 q.align) ∧ w'.cell? ⟨B14, 0, none⟩ = some (.string (bs q14.src)) ∧ w'.cell? ⟨B14, 1, none⟩ = some (.string (bs q14.dst)) ∧ w'.cell? ⟨B14, 2, none⟩ = some (.int .i64 q14.kind) ∧ w'.cell? ⟨B14, 3, none⟩ = some (.int .i64 q14.size) ∧ w'.cell? ⟨B14, 4, none⟩ = some (.int .i64 q14.align) ∧ w'.cell? ⟨B16, 0, none⟩ = some (.string (bs q14.src)) ∧ w'.cell? ⟨B16, 1, none⟩ = some (.string (bs q14.dst)) ∧ w'.cell? ⟨B16, 2, none⟩ = some (.int .i64 q14.kind) ∧ w'.cell? ⟨B16, 3, none⟩ = some (.int .i64 q14.size) ∧ w'.cell? ⟨B16, 4, none⟩ = some (.int .i64 q14.align) ∧ w'.cell? ⟨r, 0, none⟩ = some (.slice a' n' c'))
                (first | exact EE.out | exact ED.out | go_keep)
                (first
                  | (go_at_call 24
                     have C := oall TD.out.g HM1.out
                     (with_reducible refine (C).mono ?_)
                     rintro e UU ⟨v134, rfl, ra, br⟩
                     replace TD := Lib.hid (TD.out.keep br)
                     replace BR := Lib.hid (BR.out.trans (br.mono BR.out.size))
                     have EE := Lib.hid (HS16.out _ BR.out)
                     (try replace RA := Lib.hid (RA.out.keep br))
                     (try replace R135 := Lib.hid (R135.out.keep br))
                     (try replace RO := Lib.hid (RO.out.keep br))
                     (try replace R146 := Lib.hid (R146.out.keep br))
                     (try replace R149 := Lib.hid (R149.out.keep br))
                     have RA := Lib.hid ra
                     clear ra C
                     clear br)
                  | (go_at_call 23
                     have C := plainO RA.out HM1.out
                     (with_reducible refine (C).mono ?_)
                     rintro e UU ⟨v135, rfl, r135, br⟩
                     replace TD := Lib.hid (TD.out.keep br)
                     replace BR := Lib.hid (BR.out.trans (br.mono BR.out.size))
                     have EE := Lib.hid (HS16.out _ BR.out)
                     (try replace RA := Lib.hid (RA.out.keep br))
                     (try replace R135 := Lib.hid (R135.out.keep br))
                     (try replace RO := Lib.hid (RO.out.keep br))
                     (try replace R146 := Lib.hid (R146.out.keep br))
                     (try replace R149 := Lib.hid (R149.out.keep br))
                     have R135 := Lib.hid r135
                     clear r135 C
                     clear br)
                  | (go_at_call 22
                     have C := sameP R135.out TD.out.d.row
                     rw [show decide (M = M) = true from decide_eq_true rfl] at C
                     (with_reducible refine (C).mono ?_)
                     rintro e UU ⟨rfl, br⟩
                     replace TD := Lib.hid (TD.out.keep br)
                     replace BR := Lib.hid (BR.out.trans (br.mono BR.out.size))
                     have EE := Lib.hid (HS16.out _ BR.out)
                     (try replace RA := Lib.hid (RA.out.keep br))
                     (try replace R135 := Lib.hid (R135.out.keep br))
                     (try replace RO := Lib.hid (RO.out.keep br))
                     (try replace R146 := Lib.hid (R146.out.keep br))
                     (try replace R149 := Lib.hid (R149.out.keep br))
                     clear C
                     clear br)
                  | (go_at_call 25
                     have C := oof kt TD.out.g HM1.out
                     (with_reducible refine (C).mono ?_)
                     rintro e UU ⟨v145, rfl, ro, br⟩
                     replace TD := Lib.hid (TD.out.keep br)
                     replace BR := Lib.hid (BR.out.trans (br.mono BR.out.size))
                     have EE := Lib.hid (HS16.out _ BR.out)
                     (try replace RA := Lib.hid (RA.out.keep br))
                     (try replace R135 := Lib.hid (R135.out.keep br))
                     (try replace RO := Lib.hid (RO.out.keep br))
                     (try replace R146 := Lib.hid (R146.out.keep br))
                     (try replace R149 := Lib.hid (R149.out.keep br))
                     have RO := Lib.hid ro
                     clear ro C
                     clear br)
                  | (go_at_call 23
                     have C := plainO RO.out (Nat.le_trans (ofL_le _ _) HM1.out)
                     (with_reducible refine (C).mono ?_)
                     rintro e UU ⟨v146, rfl, r146, br⟩
                     replace TD := Lib.hid (TD.out.keep br)
                     replace BR := Lib.hid (BR.out.trans (br.mono BR.out.size))
                     have EE := Lib.hid (HS16.out _ BR.out)
                     (try replace RA := Lib.hid (RA.out.keep br))
                     (try replace R135 := Lib.hid (R135.out.keep br))
                     (try replace RO := Lib.hid (RO.out.keep br))
                     (try replace R146 := Lib.hid (R146.out.keep br))
                     (try replace R149 := Lib.hid (R149.out.keep br))
                     have R146 := Lib.hid r146
                     clear r146 C
                     clear br)
                  | (go_at_call 26
                     have C := rof11_any _ r a' n' c' M kt TD.out.d HN1.out
                     (with_reducible refine (C).mono ?_)
                     rintro e UU ⟨v149, rfl, r149, br⟩
                     replace TD := Lib.hid (TD.out.keep br)
                     replace BR := Lib.hid (BR.out.trans (br.mono BR.out.size))
                     have EE := Lib.hid (HS16.out _ BR.out)
                     (try replace RA := Lib.hid (RA.out.keep br))
                     (try replace R135 := Lib.hid (R135.out.keep br))
                     (try replace RO := Lib.hid (RO.out.keep br))
                     (try replace R146 := Lib.hid (R146.out.keep br))
                     (try replace R149 := Lib.hid (R149.out.keep br))
                     have R149 := Lib.hid r149
                     clear r149 C
                     clear br)
                  | (go_at_call 22
                     have C := sameO R146.out R149.out
                     rw [show decide (ofL M kt = ofL M kt) = true from decide_eq_true rfl] at C
                     (with_reducible refine (C).mono ?_)
                     rintro e UU ⟨rfl, br⟩
                     replace TD := Lib.hid (TD.out.keep br)
                     replace BR := Lib.hid (BR.out.trans (br.mono BR.out.size))
                     have EE := Lib.hid (HS16.out _ BR.out)
                     (try replace RA := Lib.hid (RA.out.keep br))
                     (try replace R135 := Lib.hid (R135.out.keep br))
                     (try replace RO := Lib.hid (RO.out.keep br))
                     (try replace R146 := Lib.hid (R146.out.keep br))
                     (try replace R149 := Lib.hid (R149.out.keep br))
                     clear C
                     clear br)
                  | (go_at_call 14
                     (with_reducible refine (HO1.out _).mono ?_)
                     rintro e UU ⟨rfl, br⟩
                     replace TD := Lib.hid (TD.out.keep br)
                     replace BR := Lib.hid (BR.out.trans (br.mono BR.out.size))
                     have EE := Lib.hid (HS16.out _ BR.out)
                     (try replace RA := Lib.hid (RA.out.keep br))
                     (try replace R135 := Lib.hid (R135.out.keep br))
                     (try replace RO := Lib.hid (RO.out.keep br))
                     (try replace R146 := Lib.hid (R146.out.keep br))
                     (try replace R149 := Lib.hid (R149.out.keep br))
                     clear br)
                  | (go_at_call 14
                     (with_reducible refine (HO2.out _).mono ?_)
                     rintro e UU ⟨rfl, br⟩
                     replace TD := Lib.hid (TD.out.keep br)
                     replace BR := Lib.hid (BR.out.trans (br.mono BR.out.size))
                     have EE := Lib.hid (HS16.out _ BR.out)
                     (try replace RA := Lib.hid (RA.out.keep br))
                     (try replace R135 := Lib.hid (R135.out.keep br))
                     (try replace RO := Lib.hid (RO.out.keep br))
                     (try replace R146 := Lib.hid (R146.out.keep br))
                     (try replace R149 := Lib.hid (R149.out.keep br))
                     clear br)
                  | (go_at_call 27
                     (with_reducible refine (HRG.out _).mono ?_)
                     rintro e UU ⟨rfl, br⟩
                     replace TD := Lib.hid (TD.out.keep br)
                     replace BR := Lib.hid (BR.out.trans (br.mono BR.out.size))
                     have EE := Lib.hid (HS16.out _ BR.out)
                     (try replace RA := Lib.hid (RA.out.keep br))
                     (try replace R135 := Lib.hid (R135.out.keep br))
                     (try replace RO := Lib.hid (RO.out.keep br))
                     (try replace R146 := Lib.hid (R146.out.keep br))
                     (try replace R149 := Lib.hid (R149.out.keep br))
                     clear br)
                  | (go_at_call 28
                     (with_reducible refine (HRD.out _).mono ?_)
                     rintro e UU ⟨rfl, br⟩
                     replace TD := Lib.hid (TD.out.keep br)
                     replace BR := Lib.hid (BR.out.trans (br.mono BR.out.size))
                     have EE := Lib.hid (HS16.out _ BR.out)
                     (try replace RA := Lib.hid (RA.out.keep br))
                     (try replace R135 := Lib.hid (R135.out.keep br))
                     (try replace RO := Lib.hid (RO.out.keep br))
                     (try replace R146 := Lib.hid (R146.out.keep br))
                     (try replace R149 := Lib.hid (R149.out.keep br))
                     clear br)
                  | fail)
              all_goals
                rename_i hHeld
                clear hHeld EE ED hne HS16 BR
                go_wp2
                go_roundw
                case rel => exact ⟨j + 1, x', bi', bf', F', M, a', n', c', by omega, by go_num, rfl, TD, HM⟩
                case measure => simp [intOf]; omega

          · rw [decide_eq_false hq] at HLI
            clear hq
            go_wp2_with fail
            clear c1 c2 c3 c4 c5 k0 x0 x1 x2 x3 x4
            generalize hW1 : wr.alloc (.cells #[.int .i64 kk, .string (bs q.src), .string (bs q.dst), .int .i64 q.kind, .int .i64 q.size, .int .i64 q.align] 33) = W1 at *
            clear hW1
            refine (HLI.out _).mono ?_
            rintro e V1 ⟨rfl, br⟩
            have T3 := Lib.hid (T2.out.keep br)
            clear br T T2 HLI P
            go_wp2
            go_roundw
            case rel => exact ⟨j + 1, x, bi, bf, F, L, a1, n1, c1, by omega, by go_num, rfl, T3, Lib.hid (by omega)⟩
            case measure => simp [intOf]; omega
        · have h40z : ¬ (j : Int) < 60 := by omega
          go_wp2_with fail
          refine (known11_any _).mono ?_
          rintro e V9 ⟨rfl, br⟩
          have T9 := Lib.hid (T.out.keep br)
          go_wp2
          go_ret
          exact ⟨rfl, T9.out.g.bel⟩

      · have hjz : ¬ (j : Int) < (n : Int) := by omega
        go_wp2_with fail
        refine (known11_any _).mono ?_
        rintro e V9 ⟨rfl, br⟩
        have T9 := Lib.hid (T.out.keep br)
        go_wp2
        go_ret
        exact ⟨rfl, T9.out.g.bel⟩

  · have hkz : ((bs kt).size : Int) > 100 := by omega
    go_wp2_with fail
    refine (known11_any _).mono ?_
    rintro e V9 ⟨rfl, br⟩
    have T9 := Lib.hid (T.out.keep br)
    go_wp2
    go_ret
    exact ⟨rfl, T9.out.g.bel⟩


set_option maxRecDepth 100000 in
theorem lifted (os : Os) (started : os.Started) (H : Type) (enc : TypeId × Value → H) :
    ReturnsInHanded {} Try.checked os 3 .any (Rows.graphPlaysSpec.pre6 enc Try.prog Try.f3 Rows.graphPlaysRow.domain false) (Rows.graphPlaysSpec.post enc Try.prog Try.f3 false true false false) := by
  refine returnsInHanded_of_change (C := Try.checked) own started (by kernel_rfl) Try.func3
    (ChangeSpec.witness6 (enc := enc) (C := Try.checked) false ⟨#[], #[.slice none 0 0, .string ByteArray.empty], []⟩ 8 (by kernel_rfl) (by kernel_rfl) (by kernel_rfl) (by kernel_rfl)) ?_
  intro W base args ds gs before hval0 hW hcnd _
  have hval : ∀ (j : Nat) t v, Try.f3.params[j]? = some t → args[j]? = some v → Value.okWide Try.prog W .any base t v := hval0
  have hW' := hW
  obtain ⟨p, q, hA0, hV, rfl, hfz, hnd⟩ := hW
  have hA : DataW.TrodAll enc Try.prog W 0 (fun _ => true) true Try.f3.params.toList args.toList ds p := hA0
  rw [Try.params3] at hA hval
  obtain ⟨v0, vs0, d0, ds0, p0, q0, hargs, rfl, rfl, h0, r0⟩ := trodAll_cons hA
  obtain ⟨v1, vs1, d1, ds1, p1, q1, rfl, rfl, rfl, h1, r1⟩ := trodAll_cons r0
  obtain ⟨rfl, rfl, rfl⟩ := trodAll_nil r1
  obtain rfl : args = #[v0, v1] := by cases args; simp_all
  obtain ⟨rfl, rfl⟩ := trodVars_none hV
  obtain ⟨a0, len0, cap0, rfl⟩ := okWide_slice Try.underlying22 (hval 0 22 v0 rfl rfl)
  have k0 := h0
  have lt0 : ∀ x ∈ p0, x.block < W.heap.size := by obtain ⟨m, hm⟩ := k0; exact DataW.trod_lt m _ _ _ hm
  obtain ⟨z0, w0⟩ := open_ops11 h0
  obtain ⟨a1, rfl, rfl, rfl, w1⟩ := open_string Try.underlying9 (hval 1 9 v1 rfl rfl) h1
  clear hA0 hval0
  refine (walk a0 len0 cap0 z0 a1 W w0 w1).mono fun e W' ⟨he, bel⟩ => ?_
  subst he
  exact ⟨_, rfl, _, _, _, [], _, [], hW', trodAll_mk1 (shut_bool Try.underlying4 _), (trodAll_cons_mk (Below.trod laidOut (by kernel_rfl) (of_decide_eq_true (by kernel_rfl)) k0 bel lt0) (trodAll_cons_mk (shut_string Try.underlying9 w1) trodAll_mk0)), rfl, bel.frame _, fun h => by cases h⟩

theorem over : Rows.graphPlaysRow.holds Try.pinned (OpenSpec.ofChange Rows.graphPlaysSpec) :=
  OpenClaim.holds_of_wide 3 Try.f3 rfl rfl rfl rfl rfl rfl rfl ⟨rfl, rfl, rfl, rfl, rfl⟩ rfl rfl rfl rfl rfl (by kernel_rfl) Try.func3 (by kernel_rfl)
    (of_decide_eq_true (by kernel_rfl)) (by unfold Func.isWrapper; first | (rw [if_pos (by decide +kernel)]; kernel_rfl) | (rw [if_neg (by decide +kernel)]; exact ⟨rfl, rfl⟩))
    (fun os started H enc _ => lifted os started H enc)

theorem proved : Rows.GraphPlaysSaid := over
end graphPlays
theorem graphPlays_holds : Rows.GraphPlaysSaid := graphPlays.proved
#print axioms graphPlays_holds
end Go.Proofs.Ytlogkhifgkkjeaa
