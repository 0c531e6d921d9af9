/-
  The statement 'RowsTimes' of layer 7: what is told of some times is what passes of each of these, as often as it is there; no sample is told that is none.
  No condition on the arguments.
-/
import Derived.Test.YtpahohnpcfgegaaTKnown
import Derived.Test.YtpahohnpcfgegaaTArgs
import Derived.Test.YtpahohnpcfgegaaRows
import Derived.Test.YtpahohnpcfgegaaTRef
import Derived.ChangeOld
namespace Go.Proofs.Ytpahohnpcfgegaa
namespace rowsTimes
open Go.ChangeShapes Go.WideShapes Go.ChangeAt Go.RowKit
set_option linter.unusedVariables false
set_option linter.unusedSimpArgs false

theorem own : ownKnob Try.prog.godebug = none := by kernel_rfl


def qTms (l : List Int) : Qry := ⟨-4611686018427387904, 4611686018427387904, false, 0, 0, 0, 0, false, l, false, 0, 0⟩
theorem cut0 : cutR 0 = id := by funext l; exact if_pos rfl
theorem tell_tms {l : List Int} (z : List (Int × Int)) (h : l.length ≤ 32) : tellR (qTms l) z = (z.filter (passB (qTms l)), 0) := by
  have e1 : madeR (qTms l) (z.filter (passB (qTms l))) = (z.filter (passB (qTms l)), 0) := if_pos rfl
  unfold tellR
  rw [if_pos (show rightQ (qTms l) from ⟨Int.le_refl _, h, fun _ => rfl, fun h => absurd rfl h⟩), e1, if_pos rfl]
  show (cutR 0 _, _) = _
  rw [cut0]; rfl
/-- Is it asked for? -/
theorem pass_tms (l : List Int) (h0 : l.length ≠ 0) (t v : Int) : passB (qTms l) (t, v) = (l.contains t && (decide (-4611686018427387904 ≤ t) && decide (t ≤ 4611686018427387904))) := by
  unfold passB inB qTms
  simp only
  rw [decide_eq_false h0]
  simp [Bool.and_comm]
/-- What passes of the first j ones, and the j-th, stand in what passes. -/
theorem filter_at (p : Int × Int → Bool) (z : List (Int × Int)) (j : Nat) (hj : j < z.length) (hp : p z[j] = true) :
    ((z.take j).filter p).length < (z.filter p).length ∧ (z.filter p)[((z.take j).filter p).length]? = some z[j] := by
  have e : z.filter p = (z.take j).filter p ++ z[j] :: (z.drop (j + 1)).filter p := by
    conv => lhs; rw [← List.take_append_drop j z, List.filter_append, List.drop_eq_getElem_cons hj, List.filter_cons, if_pos hp]
  rw [e]
  constructor
  · rw [List.length_append, List.length_cons]; omega
  · rw [List.getElem?_append_right (Nat.le_refl _), Nat.sub_self]; rfl
theorem contains_takeT {l : List Int} {x : Int} {j : Nat} (h : j < l.length) : (l.take (j + 1)).contains x = ((l.take j).contains x || decide (l.getD j 0 = x)) := by
  rw [List.take_succ_eq_append_getElem h, List.getD_eq_getElem?_getD, List.getElem?_eq_getElem h]
  rw [Bool.eq_iff_iff, Bool.or_eq_true, decide_eq_true_eq]
  simp only [List.contains_iff_mem, List.mem_append, List.mem_singleton, Option.getD_some]
  constructor
  · rintro (h | h)
    · exact .inl h
    · exact .inr h.symm
  · rintro (h | h)
    · exact .inl h
    · exact .inr h.symm

set_option maxRecDepth 100000 in
set_option maxHeartbeats 8000000 in
theorem walk0 (sa : Option Addr) (len cap : Nat) (z : List (Int × Int)) (a : Option Addr) (n c : Nat) (l : List Int) (w : World) (hz : SampAt w sa len cap z) (hi : IntAt w a n c l) :
    Calls Try.prog 8 #[.slice sa len cap, .slice a n c] w fun e w' => e = .returned (.bool true) ∧ Below w.heap.size w w' := by
  have HZ := Lib.hid hz
  have HI := Lib.hid hi
  have HL := Lib.hid hz.1
  have HTM := Lib.hid hi.1
  clear hz hi
  by_cases hl : 60 < len
  · have hl' : (60 : Int) < (len : Int) := by omega
    go_enter Try.func8, Try.ntmps8
    go_wp2_with fail
    refine (tknown_any _).mono ?_
    rintro e W2 ⟨rfl, b2⟩
    go_wp2
    go_ret
    exact ⟨rfl, b2⟩
  · have hl' : ¬ (60 : Int) < (len : Int) := by omega
    by_cases hn0 : n = 0
    · have hn' : ((n : Int) == 0) = true := by rw [beq_iff_eq]; omega
      clear hn0
      go_enter Try.func8, Try.ntmps8
      go_wp2_with fail
      refine (tknown_any _).mono ?_
      rintro e W2 ⟨rfl, b2⟩
      go_wp2
      go_ret
      exact ⟨rfl, b2⟩
    · have hn1 : ((n : Int) == 0) = false := by rw [beq_eq_false_iff_ne]; omega
      have HN0 := Lib.hid hn0
      clear hn0
      by_cases hn : 32 < n
      · have hn' : (32 : Int) < (n : Int) := by omega
        go_enter Try.func8, Try.ntmps8
        go_wp2_with fail
        refine (tknown_any _).mono ?_
        rintro e W2 ⟨rfl, b2⟩
        go_wp2
        go_ret
        exact ⟨rfl, b2⟩
      · have hn' : ¬ (32 : Int) < (n : Int) := by omega
        go_enter Try.func8, Try.ntmps8
        go_wp2_with fail
        have B1 := (Below.refl w.heap.size w).alloc (Nat.le_refl _) (.cells #[.int .i64 (-4611686018427387904), .int .i64 4611686018427387904, .bool false, .int .i64 0, .int .i64 0, .int .i64 0, .int .i64 0, .bool false, .slice a n c, .bool false, .int .i64 0, .int .i64 0] 25)
        have hq1 := heap_new w (.cells #[.int .i64 (-4611686018427387904), .int .i64 4611686018427387904, .bool false, .int .i64 0, .int .i64 0, .int .i64 0, .int .i64 0, .bool false, .slice a n c, .bool false, .int .i64 0, .int .i64 0] 25)
        have s1 : w.heap.size < (w.alloc (.cells #[.int .i64 (-4611686018427387904), .int .i64 4611686018427387904, .bool false, .int .i64 0, .int .i64 0, .int .i64 0, .int .i64 0, .bool false, .slice a n c, .bool false, .int .i64 0, .int .i64 0] 25)).heap.size := by simp
        generalize w.alloc (.cells #[.int .i64 (-4611686018427387904), .int .i64 4611686018427387904, .bool false, .int .i64 0, .int .i64 0, .int .i64 0, .int .i64 0, .bool false, .slice a n c, .bool false, .int .i64 0, .int .i64 0] 25) = W1 at *
        have HCA := Lib.hid (qc_of (q := qTms l) (a := a) (n := n) (c := c) hq1)
        have HZ1 := Lib.hid (HZ.out.keep B1)
        have HI1 := Lib.hid (HI.out.keep B1)
        generalize hqb : w.heap.size = qb at *
        have HQB := Lib.hid hqb
        clear hqb hq1
        have TT := tell_any (qTms l) a n c sa len cap z _ HZ1.out HI1.out (by omega)
        rw [tell_tms z (by rw [HTM.out]; omega)] at TT
        refine TT.mono ?_
        clear TT
        rintro e W2 ⟨a2, n2, p2, rfl, S2, b2⟩
        have B2 := B1.trans (b2.mono (by omega))
        have HZ2 := Lib.hid (HZ1.out.keep b2)
        have HI2 := Lib.hid (HI1.out.keep b2)
        have s2 := b2.size
        have HCA2 := Lib.hid (HCA.out.keep b2 (by omega))
        have HP := Lib.hid (fun t v => pass_tms l (by rw [HTM.out]; exact HN0.out) t v)
        have HAT := Lib.hid (filter_at (passB (qTms l)) z)
        have HSN := Lib.hid (filter_snoc (passB (qTms l)) z)
        have HALL := Lib.hid (show (z.take len).filter (passB (qTms l)) = z.filter (passB (qTms l)) from by rw [List.take_of_length_le (by rw [HL.out]; exact Nat.le_refl _)])
        clear b2 B1 HCA HZ1 HI1
        have HS2 := Lib.hid S2
        have hn2 := S2.2.2.1
        clear S2
        obtain ⟨P, hP⟩ : ∃ P, passB (qTms l) = P := ⟨_, rfl⟩
        rw [hP] at HP HAT HSN HALL HS2
        clear hP
        go_wp2
        go_loopw [8, 9] (fun m i wr => ∃ j k : Nat, j ≤ len ∧ k ≤ j ∧ i = .int .i64 (j : Int) ∧ m = .int .i64 (k : Int) ∧ Hid (((z.take j).filter P).length = k) ∧ Below W2.heap.size W2 wr) (fun _ i _ => len - (intOf i).toNat)
        case atStart => exact ⟨0, 0, Nat.zero_le _, Nat.le_refl _, rfl, rfl, Lib.hid (by simp), Below.refl _ _⟩
        case round =>
          obtain ⟨j, k, hj, hk, rfl, rfl, HK, B⟩ := hrel
          have sB := B.size
          by_cases hjn : j < len
          · go_wp2
            go_loopw [10, 11] (fun r i wr => ∃ g : Nat, g ≤ n ∧ i = .int .i64 (g : Int) ∧ r = .bool ((l.take g).contains (tOf z j)) ∧ Below W2.heap.size W2 wr) (fun _ i _ => n - (intOf i).toNat)
            case atStart => exact ⟨0, Nat.zero_le _, rfl, by simp, B⟩
            case round =>
              clear B sB
              obtain ⟨g, hg, rfl, rfl, B⟩ := hrel
              have sB := B.size
              obtain ⟨p, o, ha, hp, hallz⟩ := (HZ2.out.keep B).all (by omega)
              subst ha
              obtain ⟨x0, x1⟩ := hallz j hjn
              by_cases hgn : g < n
              · obtain ⟨p3, o3, ha3, hp3, y0⟩ := (HI2.out.keep B).at_ g hgn
                subst ha3
                have HST := Lib.hid (contains_takeT (l := l) (x := tOf z j) (j := g) (by rw [HTM.out]; exact hgn))
                generalize l.getD g 0 = y at *
                obtain ⟨r, hr⟩ : ∃ r, (l.take g).contains (tOf z j) = r := ⟨_, rfl⟩
                rw [hr] at HST ⊢
                obtain ⟨t, ht⟩ : ∃ t, tOf z j = t := ⟨_, rfl⟩
                rw [ht] at HST x0
                have HTT := Lib.hid ht
                clear hr ht hallz x1
                have hgn' : (g : Int) < (n : Int) := by omega
                have hjn' : (j : Int) < (len : Int) := by omega
                cases r
                · by_cases he : y = t
                  · have tb : (y == t) = true := beq_iff_eq.2 he
                    have HF := Lib.hid (show (l.take (g + 1)).contains t = true from by rw [HST.out, he]; simp)
                    clear he HST
                    go_wp2_with fail
                    go_quiet (fail)
                    have B3 := B.trans ((show Drew wr (wr.drewN nq) from ⟨nq, rfl⟩).below.mono sB)
                    generalize wr.drewN nq = W3 at *
                    clear x0 y0 B sB
                    go_wp2
                    go_roundw
                    case rel => exact ⟨g + 1, by omega, by go_num, by rw [HTT.out, HF.out], B3⟩
                    case measure => simp [intOf]; omega
                  · have tb : (y == t) = false := beq_eq_false_iff_ne.2 he
                    have HF := Lib.hid (show (l.take (g + 1)).contains t = false from by rw [HST.out]; simp [he])
                    clear he HST
                    go_wp2_with fail
                    go_quiet (fail)
                    have B3 := B.trans ((show Drew wr (wr.drewN nq) from ⟨nq, rfl⟩).below.mono sB)
                    generalize wr.drewN nq = W3 at *
                    clear x0 y0 B sB
                    go_wp2
                    go_roundw
                    case rel => exact ⟨g + 1, by omega, by go_num, by rw [HTT.out, HF.out], B3⟩
                    case measure => simp [intOf]; omega
                · have HF := Lib.hid (show (l.take (g + 1)).contains t = true from by rw [HST.out]; simp)
                  clear HST
                  go_wp2_with fail
                  go_quiet (fail)
                  have B3 := B.trans ((show Drew wr (wr.drewN nq) from ⟨nq, rfl⟩).below.mono sB)
                  generalize wr.drewN nq = W3 at *
                  clear x0 y0 B sB
                  go_wp2
                  go_roundw
                  case rel => exact ⟨g + 1, by omega, by go_num, by rw [HTT.out, HF.out], B3⟩
                  case measure => simp [intOf]; omega
              · obtain rfl : n = g := by omega
                have HTK := Lib.hid (show l.take n = l from List.take_of_length_le (by rw [HTM.out]; exact Nat.le_refl _))
                rw [HTK.out]
                have HPT := Lib.hid (HP.out (tOf z j) (vOf z j))
                have HSJ := Lib.hid (HSN.out j (by rw [HL.out]; exact hjn))
                have HPA := Lib.hid (fun h => HAT.out j (by rw [HL.out]; exact hjn) h)
                rw [pair_at z j (by rw [HL.out]; exact hjn)] at HPA
                rw [HK.out] at HPA
                obtain ⟨t, ht⟩ : ∃ t, tOf z j = t := ⟨_, rfl⟩
                obtain ⟨v, hv⟩ : ∃ v, vOf z j = v := ⟨_, rfl⟩
                rw [ht] at HPT HSJ HPA x0 ⊢
                rw [hv] at HPT HSJ HPA x1
                clear ht hv hallz
                obtain ⟨c0, c1, c2, c3, c4, c5, c6, c7, c8, c9, c10, c11⟩ := HCA2.out.keep B (by omega)
                simp only [qTms] at c0 c1 c2 c3 c4 c5 c6 c7 c8 c9 c10 c11
                have hjn' : (j : Int) < (len : Int) := by omega
                obtain ⟨r, hr⟩ : ∃ r, l.contains t = r := ⟨_, rfl⟩
                rw [hr] at HPT ⊢
                clear hr
                cases r
                · have HF1 := Lib.hid (show (z.take (j + 1)).filter P = (z.take j).filter P from by rw [HSJ.out, HPT.out]; rfl)
                  clear HPT HSJ HPA
                  go_wp2_with fail
                  go_quiet (fail)
                  have B3 := B.trans ((show Drew wr (wr.drewN nq) from ⟨nq, rfl⟩).below.mono sB)
                  generalize wr.drewN nq = W3 at *
                  clear c0 c1 c2 c3 c4 c5 c6 c7 c8 c9 c10 c11 x0 x1 B sB
                  go_wp2
                  go_roundw
                  case rel => exact ⟨j + 1, k, by omega, by omega, by go_num, rfl, by rw [HF1.out]; exact HK, B3⟩
                  case measure => simp [intOf]; omega
                · by_cases h1 : (-4611686018427387904 : Int) ≤ t
                  · by_cases h2 : t ≤ 4611686018427387904
                    · have HPT2 := Lib.hid (show P (t, v) = true from by rw [HPT.out, decide_eq_true h1, decide_eq_true h2]; rfl)
                      have HF1 := Lib.hid (show (z.take (j + 1)).filter P = (z.take j).filter P ++ [(t, v)] from by rw [HSJ.out, if_pos HPT2.out])
                      obtain ⟨hlt, hat⟩ := HPA.out HPT2.out
                      have hkn2 : k < n2 := by have := HS2.out.1; omega
                      have HAT2 := Lib.hid (show tOf (z.filter P) k = t ∧ vOf (z.filter P) k = v from by
                        unfold tOf vOf
                        rw [List.getD_eq_getElem?_getD, hat]
                        exact ⟨rfl, rfl⟩)
                      have HH := Lib.hid (And.intro h1 h2)
                      clear HPT HSJ HPA HPT2 hlt hat h1 h2
                      go_wp2_with fail
                      have g1 : decide ((-4611686018427387904 : Int) ≤ t) = true := decide_eq_true HH.out.1
                      have g2 : decide (t ≤ (4611686018427387904 : Int)) = true := decide_eq_true HH.out.2
                      go_quiet (fail)
                      have B3 := B.trans ((show Drew wr (wr.drewN nq) from ⟨nq, rfl⟩).below.mono sB)
                      have x0' : (wr.drewN nq).cell? ⟨p, o + j * 2, none⟩ = some (.int .i64 t) := x0
                      have x1' : (wr.drewN nq).cell? ⟨p, o + j * 2 + 1, none⟩ = some (.int .i64 v) := x1
                      generalize wr.drewN nq = W3 at *
                      clear c0 c1 c2 c3 c4 c5 c6 c7 c8 c9 c10 c11 x0 x1 B sB g1 g2
                      have s3 := B3.size
                      obtain ⟨p5, o5, ha5, hp5, y0, y1⟩ := (HS2.out.keep B3).at_ k hkn2
                      subst ha5
                      rw [HAT2.out.1] at y0
                      rw [HAT2.out.2] at y1
                      have e1 : (t == t) = true := by simp
                      have e2 : (v == v) = true := by simp
                      have hkn3 : (k : Int) < (n2 : Int) := by omega
                      go_wp2_with fail
                      have g1 : decide ((n2 : Int) ≤ (k : Int)) = false := decide_eq_false (by omega)
                      have g2 : decide (n2 ≤ k) = false := decide_eq_false (by omega)
                      go_quiet (fail)
                      have B4 := B3.trans ((show Drew W3 (W3.drewN nq) from ⟨nq, rfl⟩).below.mono s3)
                      generalize W3.drewN nq = W4 at *
                      clear x0' x1' y0 y1 B3 s3 g1 g2
                      go_wp2
                      go_roundw
                      case rel => exact ⟨j + 1, k + 1, by omega, by omega, by go_num, by go_num, Lib.hid (by rw [HF1.out, List.length_append, HK.out]; rfl), B4⟩
                      case measure => simp [intOf]; omega
                    · have HF1 := Lib.hid (show (z.take (j + 1)).filter P = (z.take j).filter P from by rw [HSJ.out, HPT.out, decide_eq_false h2]; simp)
                      have HH := Lib.hid (And.intro h1 h2)
                      clear HPT HSJ HPA h1 h2
                      go_wp2_with fail
                      have g1 : decide ((-4611686018427387904 : Int) ≤ t) = true := decide_eq_true HH.out.1
                      have g2 : decide (t ≤ (4611686018427387904 : Int)) = false := decide_eq_false (by have := HH.out.2; omega)
                      go_quiet (fail)
                      have B3 := B.trans ((show Drew wr (wr.drewN nq) from ⟨nq, rfl⟩).below.mono sB)
                      generalize wr.drewN nq = W3 at *
                      clear c0 c1 c2 c3 c4 c5 c6 c7 c8 c9 c10 c11 x0 x1 B sB
                      go_wp2
                      go_roundw
                      case rel => exact ⟨j + 1, k, by omega, by omega, by go_num, rfl, by rw [HF1.out]; exact HK, B3⟩
                      case measure => simp [intOf]; omega
                  · have HF1 := Lib.hid (show (z.take (j + 1)).filter P = (z.take j).filter P from by rw [HSJ.out, HPT.out, decide_eq_false h1]; simp)
                    have HH := Lib.hid h1
                    clear HPT HSJ HPA h1
                    go_wp2_with fail
                    have g1 : decide ((-4611686018427387904 : Int) ≤ t) = false := decide_eq_false (by have := HH.out; omega)
                    go_quiet (fail)
                    have B3 := B.trans ((show Drew wr (wr.drewN nq) from ⟨nq, rfl⟩).below.mono sB)
                    generalize wr.drewN nq = W3 at *
                    clear c0 c1 c2 c3 c4 c5 c6 c7 c8 c9 c10 c11 x0 x1 B sB
                    go_wp2
                    go_roundw
                    case rel => exact ⟨j + 1, k, by omega, by omega, by go_num, rfl, by rw [HF1.out]; exact HK, B3⟩
                    case measure => simp [intOf]; omega
          · obtain rfl : len = j := by omega
            rw [HALL.out] at HK
            have hnn : n2 = k := by rw [← HK.out]; exact HS2.out.1.symm
            subst hnn
            have tt : ((n2 : Int) == (n2 : Int)) = true := beq_self_eq_true _
            go_wp2_with fail
            refine (tknown_any _).mono ?_
            rintro e W9 ⟨rfl, b9⟩
            have B9 := B2.trans ((B.trans (b9.mono sB)).mono (by omega))
            go_wp2
            go_ret
            exact ⟨rfl, by rw [HQB.out]; exact B9⟩

theorem walk (a0 : Option Addr) (len0 cap0 : Nat) (z0 : List (Int × Int)) (a1 : Option Addr) (len1 cap1 : Nat) (z1 : List Int) (w : World) (w0 : SampAt w a0 len0 cap0 z0) (w1 : IntAt w a1 len1 cap1 z1) :
    Calls Try.prog 8 #[.slice a0 len0 cap0, .slice a1 len1 cap1] w fun e w' => e = .returned (.bool true) ∧ Below w.heap.size w w' := walk0 a0 len0 cap0 z0 a1 len1 cap1 z1 w w0 w1

set_option maxRecDepth 100000 in
theorem lifted (os : Os) (started : os.Started) (H : Type) (enc : TypeId × Value → H) :
    ReturnsInHanded {} Try.checked os 8 .any (Rows.rowsTimesSpec.pre6 enc Try.prog Try.f8 Rows.rowsTimesRow.domain false) (Rows.rowsTimesSpec.post enc Try.prog Try.f8 false true false false) := by
  refine returnsInHanded_of_change (C := Try.checked) own started (by kernel_rfl) Try.func8
    (ChangeSpec.witness6 (enc := enc) (C := Try.checked) false ⟨#[], #[.slice none 0 0, .slice none 0 0], []⟩ 8 (by kernel_rfl) (by kernel_rfl) (by kernel_rfl) (by kernel_rfl)) ?_
  intro W base args ds gs before hval0 hW hcnd _
  have hval : ∀ (j : Nat) t v, Try.f8.params[j]? = some t → args[j]? = some v → Value.okWide Try.prog W .any base t v := hval0
  have hW' := hW
  obtain ⟨p, q, hA0, hV, rfl, hfz, hnd⟩ := hW
  have hA : DataW.TrodAll enc Try.prog W 0 (fun _ => true) true Try.f8.params.toList args.toList ds p := hA0
  rw [Try.params8] at hA hval
  obtain ⟨v0, vs0, d0, ds0, p0, q0, hargs, rfl, rfl, h0, r0⟩ := trodAll_cons hA
  obtain ⟨v1, vs1, d1, ds1, p1, q1, rfl, rfl, rfl, h1, r1⟩ := trodAll_cons r0
  obtain ⟨rfl, rfl, rfl⟩ := trodAll_nil r1
  obtain rfl : args = #[v0, v1] := by cases args; simp_all
  obtain ⟨rfl, rfl⟩ := trodVars_none hV
  obtain ⟨a0, len0, cap0, rfl⟩ := okWide_slice Try.underlying22 (hval 0 22 v0 rfl rfl)
  have k0 := h0
  have lt0 : ∀ x ∈ p0, x.block < W.heap.size := by obtain ⟨m, hm⟩ := k0; exact DataW.trod_lt m _ _ _ hm
  obtain ⟨z0, w0⟩ := open_samps h0
  obtain ⟨a1, len1, cap1, rfl⟩ := okWide_slice Try.underlying23 (hval 1 23 v1 rfl rfl)
  have k1 := h1
  have lt1 : ∀ x ∈ p1, x.block < W.heap.size := by obtain ⟨m, hm⟩ := k1; exact DataW.trod_lt m _ _ _ hm
  obtain ⟨z1, w1⟩ := open_ints7 h1
  clear hA0 hval0
  refine (walk a0 len0 cap0 z0 a1 len1 cap1 z1 W w0 w1).mono fun e W' ⟨he, bel⟩ => ?_
  subst he
  exact ⟨_, rfl, _, _, _, [], _, [], hW', trodAll_mk1 (shut_bool Try.underlying4 _), (trodAll_cons_mk (Below.trod laidOut (by kernel_rfl) (of_decide_eq_true (by kernel_rfl)) k0 bel lt0) (trodAll_cons_mk (Below.trod laidOut (by kernel_rfl) (of_decide_eq_true (by kernel_rfl)) k1 bel lt1) trodAll_mk0)), rfl, bel.frame _, fun h => by cases h⟩

theorem over : Rows.rowsTimesRow.holds Try.pinned (OpenSpec.ofChange Rows.rowsTimesSpec) :=
  OpenClaim.holds_of_wide 8 Try.f8 rfl rfl rfl rfl rfl rfl rfl ⟨rfl, rfl, rfl, rfl, rfl⟩ rfl rfl rfl rfl rfl (by kernel_rfl) Try.func8 (by kernel_rfl)
    (of_decide_eq_true (by kernel_rfl)) (by unfold Func.isWrapper; first | (rw [if_pos (by decide +kernel)]; kernel_rfl) | (rw [if_neg (by decide +kernel)]; exact ⟨rfl, rfl⟩))
    (fun os started H enc _ => lifted os started H enc)

theorem proved : Rows.RowsTimesSaid := over
end rowsTimes
theorem rowsTimes_holds : Rows.RowsTimesSaid := rowsTimes.proved
#print axioms rowsTimes_holds
end Go.Proofs.Ytpahohnpcfgegaa
