/-
  The statement 'IndexCopies' of layer 9: a copy is found by as the index was, and stays as it was, whatever is done to the index.
  No condition on the arguments.
-/
import Derived.Test.YtpkbkemenfdadaaIBuild
import Derived.Test.YtpkbkemenfdadaaIArgs
import Derived.Test.YtpkbkemenfdadaaRows
import Derived.ChangeOld
namespace Go.Proofs.Ytpkbkemenfdadaa
namespace indexCopies
open Go.ChangeShapes Go.WideShapes Go.ChangeAt Go.RowKit
open Go.ChangeMaps (open_string shut_string)
set_option linter.unusedVariables false
set_option linter.unusedSimpArgs false

theorem own : ownKnob Try.prog.godebug = none := by kernel_rfl

theorem BoxL.trn {F : Nat → Prop} {w w' : World} {B : Nat} {n v : Tx} (h : BoxL w B n v) (t : Trn F w w') : BoxL w' B n v := t.cells _ _ _ _ h
theorem BoxL.keep {w w' : World} {B : Nat} {n v : Tx} (h : BoxL w B n v) (b : Below w.heap.size w w') : BoxL w' B n v := h.trn (F := fun _ => False) (.of b)
set_option maxRecDepth 100000 in
set_option maxHeartbeats 16000000 in
theorem walk (a : Option Addr) (n c : Nat) (z : List OpL) (a1 : Option Addr) (n1 c1 : Nat) (z1 : List OpL) (q : Lb) (w : World) (h : OpAt w a n c z) (h1 : OpAt w a1 n1 c1 z1) (_ : True) :
    Calls Try.prog 7 #[.slice a n c, .slice a1 n1 c1, .agg #[.string (bs q.1), .string (bs q.2)]] w fun e w' => e = .returned (.bool true) ∧ Below w.heap.size w w' := by
  obtain ⟨nm, vl⟩ := q
  have hB := (Below.refl w.heap.size w).alloc (Nat.le_refl _) (.cells #[.string (bs nm), .string (bs vl)] 24)
  have XB := Lib.hid (show BoxL (w.alloc (.cells #[.string (bs nm), .string (bs vl)] 24)) w.heap.size nm vl from heap_new w _)
  have HZ := Lib.hid (build9_any a n c z _ (h.keep hB))
  have OM := Lib.hid (h1.keep hB)
  have B := Lib.hid hB
  obtain ⟨m1, hm1⟩ : ∃ m, (bs nm).size = m := ⟨_, rfl⟩
  obtain ⟨m2, hm2⟩ : ∃ m, (bs vl).size = m := ⟨_, rfl⟩
  clear hB h h1
  go_enter Try.func7, Try.ntmps7
  have B1 := Lib.hid B.out.size
  go_wp2_with fail
  generalize w.alloc (.cells #[.string (bs nm), .string (bs vl)] 24) = W1 at *
  refine HZ.out.mono ?_
  rintro e W2 ⟨x, bl, bn, ρ, E, rfl, x1, e40, b1, f1⟩
  have E40 := Lib.hid e40
  have X0 := Lib.hid x1
  have FX := Lib.hid f1
  replace XB := Lib.hid (BoxL.keep XB.out b1)
  replace B := Lib.hid (B.out.trans (b1.mono B.out.size))
  have OM0 := OM
  replace OM := Lib.hid (OM.out.keep b1)
  clear HZ x1 b1 f1
  have c0 := XB.out.x0
  have c1 := XB.out.x1
  by_cases k1 : m1 ≤ 100
  · have k1z : ¬ (100 : Int) < (m1 : Int) := by omega
    by_cases k2 : m2 ≤ 100
    · have k2z : ¬ (100 : Int) < (m2 : Int) := by omega
      have SZ1 := Lib.hid (show w.heap.size ≤ W1.heap.size from B1.out)
      go_wp2_with fail
      refine (ifind_ok W2 x bl bn ρ E nm vl X0.out (by have := E40.out; omega)).mono ?_
      rintro e W3 ⟨a_f, c_f, rfl, t, br⟩
      obtain ⟨n_f, hl⟩ : ∃ n, (findE E nm vl).length = n := ⟨_, rfl⟩
      rw [hl] at t
      rw [hl]
      have H_f := Lib.hid hl
      have Tf := Lib.hid t
      clear t hl
      replace X0 := Lib.hid (X0.out.keep br)
      replace XB := Lib.hid (BoxL.keep XB.out br)
      replace OM := Lib.hid (OM.out.keep br)
      replace B := Lib.hid (B.out.trans (br.mono B.out.size))
      clear br
      clear c0 c1
      have c0 := XB.out.x0
      go_wp2_with fail
      refine (iwith_ok W3 x bl bn ρ E nm X0.out (by have := E40.out; omega)).mono ?_
      rintro e W4 ⟨a_wi, c_wi, rfl, t, br⟩
      obtain ⟨n_wi, hl⟩ : ∃ n, (withE E nm).length = n := ⟨_, rfl⟩
      rw [hl] at t
      rw [hl]
      have H_wi := Lib.hid hl
      have Twi := Lib.hid t
      clear t hl
      replace X0 := Lib.hid (X0.out.keep br)
      replace XB := Lib.hid (BoxL.keep XB.out br)
      replace OM := Lib.hid (OM.out.keep br)
      replace Tf := Lib.hid (Tf.out.keep br)
      replace B := Lib.hid (B.out.trans (br.mono B.out.size))
      clear br
      clear c0
      go_wp2_with fail
      refine (ikeys_ok W4 x bl bn ρ E X0.out (by have := E40.out; omega)).mono ?_
      rintro e W5 ⟨a_k, c_k, rfl, t, br⟩
      obtain ⟨n_k, hl⟩ : ∃ n, (keysL E).length = n := ⟨_, rfl⟩
      rw [hl] at t
      rw [hl]
      have H_k := Lib.hid hl
      have Tk := Lib.hid t
      clear t hl
      replace X0 := Lib.hid (X0.out.keep br)
      replace XB := Lib.hid (BoxL.keep XB.out br)
      replace OM := Lib.hid (OM.out.keep br)
      replace Tf := Lib.hid (Tf.out.keep br)
      replace Twi := Lib.hid (Twi.out.keep br)
      replace B := Lib.hid (B.out.trans (br.mono B.out.size))
      clear br
      go_wp2_with fail
      have SZ5 := Lib.hid (show w.heap.size ≤ W5.heap.size from B.out.size)
      refine (icopy_ok W5 x bl bn ρ E X0.out).mono ?_
      rintro e W6 ⟨y, b2, n2, ρc, rfl, y0, br, fy⟩
      have Y0 := Lib.hid y0
      have DJ : ∀ i, FA ρc i → ¬ FA ρ i := fun i h1 h2 => by have := X0.out.lt h2; have := fy i h1; omega
      replace X0 := Lib.hid (X0.out.keep br)
      replace XB := Lib.hid (BoxL.keep XB.out br)
      replace OM := Lib.hid (OM.out.keep br)
      replace Tf := Lib.hid (Tf.out.keep br)
      replace Twi := Lib.hid (Twi.out.keep br)
      replace Tk := Lib.hid (Tk.out.keep br)
      replace B := Lib.hid (B.out.trans (br.mono B.out.size))
      have FY := Lib.hid (show ∀ i, FA ρ i → w.heap.size ≤ i from fun i hi => Nat.le_trans SZ1.out (FX.out i hi))
      have FYC := Lib.hid (show ∀ i, FA ρc i → w.heap.size ≤ i from fun i hi => Nat.le_trans (by have := SZ5.out; omega) (fy i hi))
      clear br y0 fy
      have O1 := Lib.hid (show OwnX w W6 x bl bn ρ E 40 from ⟨X0.out, E40.out, B.out, FY.out⟩)
      go_wp2_with fail
      clear FX
      go_loopw [12] (fun vi wr => ∃ (j : Nat) (ρ' : Rho) (E' : List Ent), vi = .int .i64 (j : Int) ∧ j ≤ n1 ∧ j ≤ 20 ∧ Hid (OwnX w wr x bl bn ρ' E' (40 + j)) ∧ Hid (IxAt wr y b2 n2 ρc E) ∧ Hid (∀ i, FA ρc i → ¬ FA ρ' i) ∧ Hid (Trn (FA ρ) W6 wr ∧ ∀ i, i < W6.heap.size → FA ρ' i → FA ρ i) ∧ Hid (OpAt wr a1 n1 c1 z1)) (fun vi _ => n1 - (intOf vi).toNat)
      case atStart => exact ⟨0, ρ, E, rfl, Nat.zero_le _, Nat.zero_le _, O1, Y0, Lib.hid DJ, Lib.hid ⟨.refl _ _, fun _ _ f => f⟩, OM⟩
      case round =>
        obtain ⟨j, ρ', E', rfl, hj, hj20, HO, HY, HD, HT, HM⟩ := hrel
        clear O1 Y0 DJ OM
        have hfin : j < n1 ∧ j < 20 ∨ ¬ (j < n1 ∧ j < 20) := by omega
        rcases hfin with ⟨hjn, hjf⟩ | hfin
        · have hjz : (j : Int) < (n1 : Int) := by omega
          have hj0 : (0 : Int) ≤ (j : Int) := by omega
          have hjf' : (j : Int) < 20 := by omega
          obtain ⟨pb, po, a', n', c', hzz, e1, hpb, x0, x1, x2, hlq⟩ := HM.out.at_ j hjn
          subst e1
          have HL := Lib.hid hlq
          clear hlq
          generalize z1[j] = q at *
          obtain ⟨qk, qs, ql⟩ := q
          have HLT := Lib.hid (light9_any ⟨qk, qs, ql⟩ a' n' c' wr HL.out)
          by_cases k1 : lightO ⟨qk, qs, ql⟩
          · rw [decide_eq_true k1] at HLT
            clear k1
            go_wp2_with fail
            refine HLT.out.mono ?_
            rintro e w2 ⟨rfl, br⟩
            have OD := Lib.hid (HO.out.keep br).drew
            have YD := Lib.hid ((HY.out.keep br).trn (Trn.drew (fun _ => False) w2) (fun _ _ _ f => f))
            have LD := Lib.hid ((HL.out.keep br).trn (Trn.drew (fun _ => False) w2))
            have MD := Lib.hid ((HM.out.keep br).trn (Trn.drew (fun _ => False) w2))
            have HF := Lib.hid HT.out.2
            have TD := Lib.hid ((HT.out.1.thenB br).trans (Trn.drew (fun _ => False) w2) (fun _ _ f => f.elim))
            replace x0 := (br.cell (p := ⟨pb, po + j * 3, none⟩) hpb).trans x0
            replace x1 := (br.cell (p := ⟨pb, po + j * 3 + 1, none⟩) hpb).trans x1
            replace x2 := (br.cell (p := ⟨pb, po + j * 3 + 2, none⟩) hpb).trans x2
            have hw2 := br.size
            clear HO HL HLT br HY HM HT
            go_wp2_with fail
            have HC := iset_ok w2.drew x bl bn ρ' E' qs a' n' c' ql OD.out.ix LD.out
            obtain ⟨rr, hrr⟩ : ∃ rr : Int, (if okE qs ql then (0 : Int) else 1) = rr := ⟨_, rfl⟩
            rw [hrr] at HC
            replace HC := Lib.hid HC
            clear hrr
            go_region_held3 (fun w' => w'.cell? ⟨pb, po + j * 3 + 1, none⟩ = some (.string (bs qs)) ∧ w'.cell? ⟨pb, po + j * 3 + 2, none⟩ = some (.slice a' n' c'))
              (first
                | exact ⟨d0.out, d1.out⟩
                | go_keep)
              (first
                | (go_at_call 12
                   (with_reducible refine HC.out.mono ?_)
                   rintro e W7 ⟨rfl, ρ7, t7⟩
                   have d0 := Lib.hid (t7.trn.cell (show w2.drew.cell? ⟨pb, po + j * 3 + 1, none⟩ = some (.string (bs qs)) from x1))
                   have d1 := Lib.hid (t7.trn.cell (show w2.drew.cell? ⟨pb, po + j * 3 + 2, none⟩ = some (.slice a' n' c') from x2)))
                | fail)
            have O7 := Lib.hid (OD.out.turn t7 (k' := 40 + (j + 1)) (by have := step_len qs ql E'; have := OD.out.few; omega))
            have Y7 := Lib.hid (YD.out.trn t7.trn (fun i _ f g => HD.out i f g))
            have D7 := Lib.hid (show ∀ i, FA ρc i → ¬ FA ρ7 i from fun i f g => HD.out i f (by
              have hi := YD.out.lt f
              unfold FA at *
              rw [t7.ext i hi] at g; exact g))
            have T7 := Lib.hid (show Trn (FA ρ) W6 W7 ∧ ∀ i, i < W6.heap.size → FA ρ7 i → FA ρ i from ⟨TD.out.trans t7.trn (fun i hi f => HF.out i hi f), fun i hi f => HF.out i hi (by
              have := TD.out.size
              unfold FA at *
              rw [t7.ext i (by omega)] at f; exact f)⟩)
            have M7 := Lib.hid (MD.out.trn t7.trn)
            clear d0 d1 t7 OD LD YD MD HC TD HD
            go_wp2
            go_roundw
            case rel => exact ⟨j + 1, ρ7, stepE qs ql E', by go_num, by omega, by omega, O7, Y7, D7, T7, M7⟩
            case measure => simp [intOf]; omega
          · rw [decide_eq_false k1] at HLT
            clear k1
            go_wp2_with fail
            refine HLT.out.mono ?_
            rintro e w2 ⟨rfl, br⟩
            have O2 := Lib.hid ((HO.out.keep br).more (k' := 40 + (j + 1)) (by omega))
            have Y2 := Lib.hid (HY.out.keep br)
            have M2 := Lib.hid (HM.out.keep br)
            have T2 := Lib.hid (show Trn (FA ρ) W6 w2 ∧ ∀ i, i < W6.heap.size → FA ρ' i → FA ρ i from ⟨HT.out.1.thenB br, HT.out.2⟩)
            clear HO HL HLT br HY HM HT
            go_wp2
            go_roundw
            case rel => exact ⟨j + 1, ρ', E', by go_num, by omega, by omega, O2, Y2, HD, T2, M2⟩
            case measure => simp [intOf]; omega
        · have HC := Lib.hid (show Trn (FA ρ) W6 wr from HT.out.1)
          have Bw := Lib.hid HO.out.bel
          replace XB := Lib.hid (BoxL.trn XB.out HC.out)
          replace Tf := Lib.hid (Tf.out.trn HC.out)
          replace Twi := Lib.hid (Twi.out.trn HC.out)
          replace Tk := Lib.hid (Tk.out.trn HC.out)
          have c0 := XB.out.x0
          have c1 := XB.out.x1
          replace B := Bw
          clear HC Bw HT HM HO HD
          have hfz : ¬ ((j : Int) < (n1 : Int)) ∨ ((j : Int) < (n1 : Int) ∧ ¬ ((j : Int) < 20)) := by omega
          rcases hfz with hfz | ⟨hfy, hfz⟩
          · go_wp2_with fail
            refine (ifind_ok wr y b2 n2 ρc E nm vl HY.out (by have := E40.out; omega)).mono ?_
            rintro e U1 ⟨a_f2, c_f2, rfl, t, br⟩
            rw [H_f.out] at t
            rw [H_f.out]
            have Tf2 := Lib.hid t
            clear t
            replace HY := Lib.hid (HY.out.keep br)
            replace XB := Lib.hid (BoxL.keep XB.out br)
            replace Tf := Lib.hid (Tf.out.keep br)
            replace Twi := Lib.hid (Twi.out.keep br)
            replace Tk := Lib.hid (Tk.out.keep br)
            replace B := Lib.hid (B.out.trans (br.mono B.out.size))
            clear br
            go_wp2_with fail
            have C := same8_any a_f2 n_f c_f2 (findE E nm vl) a_f n_f c_f (findE E nm vl) U1 Tf2.out Tf.out
            rw [decide_eq_true rfl] at C
            refine C.mono ?_
            clear C
            rintro e U2 ⟨rfl, hd⟩
            have br := hd.bel
            clear hd
            clear Tf2 Tf
            replace HY := Lib.hid (HY.out.keep br)
            replace XB := Lib.hid (BoxL.keep XB.out br)
            replace Twi := Lib.hid (Twi.out.keep br)
            replace Tk := Lib.hid (Tk.out.keep br)
            replace B := Lib.hid (B.out.trans (br.mono B.out.size))
            clear br
            clear c0 c1
            have c0 := XB.out.x0
            go_wp2_with fail
            refine (iwith_ok U2 y b2 n2 ρc E nm HY.out (by have := E40.out; omega)).mono ?_
            rintro e U3 ⟨a_w2, c_w2, rfl, t, br⟩
            rw [H_wi.out] at t
            rw [H_wi.out]
            have Tw2 := Lib.hid t
            clear t
            replace HY := Lib.hid (HY.out.keep br)
            replace XB := Lib.hid (BoxL.keep XB.out br)
            replace Twi := Lib.hid (Twi.out.keep br)
            replace Tk := Lib.hid (Tk.out.keep br)
            replace B := Lib.hid (B.out.trans (br.mono B.out.size))
            clear br
            go_wp2_with fail
            have C := same8_any a_w2 n_wi c_w2 (withE E nm) a_wi n_wi c_wi (withE E nm) U3 Tw2.out Twi.out
            rw [decide_eq_true rfl] at C
            refine C.mono ?_
            clear C
            rintro e U4 ⟨rfl, hd⟩
            have br := hd.bel
            clear hd
            clear Tw2 Twi
            replace HY := Lib.hid (HY.out.keep br)
            replace XB := Lib.hid (BoxL.keep XB.out br)
            replace Tk := Lib.hid (Tk.out.keep br)
            replace B := Lib.hid (B.out.trans (br.mono B.out.size))
            clear br
            clear c0
            go_wp2_with fail
            refine (ikeys_ok U4 y b2 n2 ρc E HY.out (by have := E40.out; omega)).mono ?_
            rintro e U5 ⟨a_k2, c_k2, rfl, t, br⟩
            rw [H_k.out] at t
            rw [H_k.out]
            have Tk2 := Lib.hid t
            clear t
            replace Tk := Lib.hid (Tk.out.keep br)
            replace B := Lib.hid (B.out.trans (br.mono B.out.size))
            clear br
            go_wp2_with fail
            have C := same8_any a_k2 n_k c_k2 (keysL E) a_k n_k c_k (keysL E) U5 Tk2.out Tk.out
            rw [decide_eq_true rfl] at C
            refine C.mono ?_
            clear C
            rintro e U6 ⟨rfl, hd⟩
            have br := hd.bel
            clear hd
            clear Tk2 Tk
            replace B := Lib.hid (B.out.trans (br.mono B.out.size))
            clear br
            go_wp2_with fail
            refine (iknown_any _).mono ?_
            rintro e w9 ⟨rfl, b9⟩
            go_wp2
            go_ret
            exact ⟨rfl, B.out.trans (b9.mono B.out.size)⟩
          · go_wp2_with fail
            refine (ifind_ok wr y b2 n2 ρc E nm vl HY.out (by have := E40.out; omega)).mono ?_
            rintro e U1 ⟨a_f2, c_f2, rfl, t, br⟩
            rw [H_f.out] at t
            rw [H_f.out]
            have Tf2 := Lib.hid t
            clear t
            replace HY := Lib.hid (HY.out.keep br)
            replace XB := Lib.hid (BoxL.keep XB.out br)
            replace Tf := Lib.hid (Tf.out.keep br)
            replace Twi := Lib.hid (Twi.out.keep br)
            replace Tk := Lib.hid (Tk.out.keep br)
            replace B := Lib.hid (B.out.trans (br.mono B.out.size))
            clear br
            go_wp2_with fail
            have C := same8_any a_f2 n_f c_f2 (findE E nm vl) a_f n_f c_f (findE E nm vl) U1 Tf2.out Tf.out
            rw [decide_eq_true rfl] at C
            refine C.mono ?_
            clear C
            rintro e U2 ⟨rfl, hd⟩
            have br := hd.bel
            clear hd
            clear Tf2 Tf
            replace HY := Lib.hid (HY.out.keep br)
            replace XB := Lib.hid (BoxL.keep XB.out br)
            replace Twi := Lib.hid (Twi.out.keep br)
            replace Tk := Lib.hid (Tk.out.keep br)
            replace B := Lib.hid (B.out.trans (br.mono B.out.size))
            clear br
            clear c0 c1
            have c0 := XB.out.x0
            go_wp2_with fail
            refine (iwith_ok U2 y b2 n2 ρc E nm HY.out (by have := E40.out; omega)).mono ?_
            rintro e U3 ⟨a_w2, c_w2, rfl, t, br⟩
            rw [H_wi.out] at t
            rw [H_wi.out]
            have Tw2 := Lib.hid t
            clear t
            replace HY := Lib.hid (HY.out.keep br)
            replace XB := Lib.hid (BoxL.keep XB.out br)
            replace Twi := Lib.hid (Twi.out.keep br)
            replace Tk := Lib.hid (Tk.out.keep br)
            replace B := Lib.hid (B.out.trans (br.mono B.out.size))
            clear br
            go_wp2_with fail
            have C := same8_any a_w2 n_wi c_w2 (withE E nm) a_wi n_wi c_wi (withE E nm) U3 Tw2.out Twi.out
            rw [decide_eq_true rfl] at C
            refine C.mono ?_
            clear C
            rintro e U4 ⟨rfl, hd⟩
            have br := hd.bel
            clear hd
            clear Tw2 Twi
            replace HY := Lib.hid (HY.out.keep br)
            replace XB := Lib.hid (BoxL.keep XB.out br)
            replace Tk := Lib.hid (Tk.out.keep br)
            replace B := Lib.hid (B.out.trans (br.mono B.out.size))
            clear br
            clear c0
            go_wp2_with fail
            refine (ikeys_ok U4 y b2 n2 ρc E HY.out (by have := E40.out; omega)).mono ?_
            rintro e U5 ⟨a_k2, c_k2, rfl, t, br⟩
            rw [H_k.out] at t
            rw [H_k.out]
            have Tk2 := Lib.hid t
            clear t
            replace Tk := Lib.hid (Tk.out.keep br)
            replace B := Lib.hid (B.out.trans (br.mono B.out.size))
            clear br
            go_wp2_with fail
            have C := same8_any a_k2 n_k c_k2 (keysL E) a_k n_k c_k (keysL E) U5 Tk2.out Tk.out
            rw [decide_eq_true rfl] at C
            refine C.mono ?_
            clear C
            rintro e U6 ⟨rfl, hd⟩
            have br := hd.bel
            clear hd
            clear Tk2 Tk
            replace B := Lib.hid (B.out.trans (br.mono B.out.size))
            clear br
            go_wp2_with fail
            refine (iknown_any _).mono ?_
            rintro e w9 ⟨rfl, b9⟩
            go_wp2
            go_ret
            exact ⟨rfl, B.out.trans (b9.mono B.out.size)⟩
    · have k2z : (100 : Int) < (m2 : Int) := by omega
      go_wp2_with fail
      refine (iknown_any _).mono ?_
      rintro e w9 ⟨rfl, b9⟩
      go_wp2
      go_ret
      exact ⟨rfl, B.out.trans (b9.mono B.out.size)⟩
  · have k1z : (100 : Int) < (m1 : Int) := by omega
    go_wp2_with fail
    refine (iknown_any _).mono ?_
    rintro e w9 ⟨rfl, b9⟩
    go_wp2
    go_ret
    exact ⟨rfl, B.out.trans (b9.mono B.out.size)⟩

set_option maxRecDepth 100000 in
theorem lifted (os : Os) (started : os.Started) (H : Type) (enc : TypeId × Value → H) :
    ReturnsInHanded {} Try.checked os 7 .any (Rows.indexCopiesSpec.pre6 enc Try.prog Try.f7 Rows.indexCopiesRow.domain false) (Rows.indexCopiesSpec.post enc Try.prog Try.f7 false true false false) := by
  refine returnsInHanded_of_change (C := Try.checked) own started (by kernel_rfl) Try.func7
    (ChangeSpec.witness6 (enc := enc) (C := Try.checked) false ⟨#[], #[.slice none 0 0, .slice none 0 0, .agg #[.string ByteArray.empty, .string ByteArray.empty]], []⟩ 8 (by kernel_rfl) (by kernel_rfl) (by kernel_rfl) (by kernel_rfl)) ?_
  intro W base args ds gs before hval0 hW hcnd _
  have hval : ∀ (j : Nat) t v, Try.f7.params[j]? = some t → args[j]? = some v → Value.okWide Try.prog W .any base t v := hval0
  have hW' := hW
  obtain ⟨p, q, hA0, hV, rfl, hfz, hnd⟩ := hW
  have hA : DataW.TrodAll enc Try.prog W 0 (fun _ => true) true Try.f7.params.toList args.toList ds p := hA0
  rw [Try.params7] at hA hval
  obtain ⟨v0, vs0, d0, ds0, p0, q0, hargs, rfl, rfl, h0, r0⟩ := trodAll_cons hA
  obtain ⟨v1, vs1, d1, ds1, p1, q1, rfl, rfl, rfl, h1, r1⟩ := trodAll_cons r0
  obtain ⟨v2, vs2, d2, ds2, p2, q2, rfl, rfl, rfl, h2, r2⟩ := trodAll_cons r1
  obtain ⟨rfl, rfl, rfl⟩ := trodAll_nil r2
  obtain rfl : args = #[v0, v1, v2] := by cases args; simp_all
  obtain ⟨rfl, rfl⟩ := trodVars_none hV
  obtain ⟨a0, len0, cap0, rfl⟩ := okWide_slice Try.underlying22 (hval 0 22 v0 rfl rfl)
  have k0 := h0
  have lt0 : ∀ x ∈ p0, x.block < W.heap.size := by obtain ⟨m, hm⟩ := k0; exact DataW.trod_lt m _ _ _ hm
  obtain ⟨z0, w0⟩ := open_ops9 h0
  obtain ⟨a1, len1, cap1, rfl⟩ := okWide_slice Try.underlying22 (hval 1 22 v1 rfl rfl)
  have k1 := h1
  have lt1 : ∀ x ∈ p1, x.block < W.heap.size := by obtain ⟨m, hm⟩ := k1; exact DataW.trod_lt m _ _ _ hm
  obtain ⟨z1, w1⟩ := open_ops9 h1
  have k2 := h2
  have lt2 : ∀ x ∈ p2, x.block < W.heap.size := by obtain ⟨m, hm⟩ := k2; exact DataW.trod_lt m _ _ _ hm
  obtain ⟨a2, rfl, w2⟩ := open_lb9 (hval 2 24 v2 rfl rfl) h2
  clear hA0 hval0
  refine (walk a0 len0 cap0 z0 a1 len1 cap1 z1 a2 W w0 w1 w2).mono fun e W' ⟨he, bel⟩ => ?_
  subst he
  exact ⟨_, rfl, _, _, _, [], _, [], hW', trodAll_mk1 (shut_bool Try.underlying4 _), (trodAll_cons_mk (Below.trod laidOut (by kernel_rfl) (of_decide_eq_true (by kernel_rfl)) k0 bel lt0) (trodAll_cons_mk (Below.trod laidOut (by kernel_rfl) (of_decide_eq_true (by kernel_rfl)) k1 bel lt1) (trodAll_cons_mk (Below.trod laidOut (by kernel_rfl) (of_decide_eq_true (by kernel_rfl)) k2 bel lt2) trodAll_mk0))), rfl, bel.frame _, fun h => by cases h⟩

theorem over : Rows.indexCopiesRow.holds Try.pinned (OpenSpec.ofChange Rows.indexCopiesSpec) :=
  OpenClaim.holds_of_wide 7 Try.f7 rfl rfl rfl rfl rfl rfl rfl ⟨rfl, rfl, rfl, rfl, rfl⟩ rfl rfl rfl rfl rfl (by kernel_rfl) Try.func7 (by kernel_rfl)
    (of_decide_eq_true (by kernel_rfl)) (by unfold Func.isWrapper; first | (rw [if_pos (by decide +kernel)]; kernel_rfl) | (rw [if_neg (by decide +kernel)]; exact ⟨rfl, rfl⟩))
    (fun os started H enc _ => lifted os started H enc)

theorem proved : Rows.IndexCopiesSaid := over
end indexCopies
theorem indexCopies_holds : Rows.IndexCopiesSaid := indexCopies.proved
#print axioms indexCopies_holds
end Go.Proofs.Ytpkbkemenfdadaa
