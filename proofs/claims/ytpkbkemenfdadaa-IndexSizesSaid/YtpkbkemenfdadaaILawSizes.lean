/-
  The statement 'IndexSizes' of layer 9: as many labels are there as are found by all names.
  No condition on the arguments.
-/
import Derived.Test.YtpkbkemenfdadaaIBuild
import Derived.Test.YtpkbkemenfdadaaIArgs
import Derived.Test.YtpkbkemenfdadaaRows
import Derived.Test.YtpkbkemenfdadaaIMath2
import Derived.Test.YtpkbkemenfdadaaERef
import Derived.ChangeOld
namespace Go.Proofs.Ytpkbkemenfdadaa
namespace indexSizes
open Go.ChangeShapes Go.WideShapes Go.ChangeAt Go.RowKit
open Go.ChangeMaps (open_string shut_string)
set_option linter.unusedVariables false
set_option linter.unusedSimpArgs false

theorem own : ownKnob Try.prog.godebug = none := by kernel_rfl

set_option maxRecDepth 100000 in
set_option maxHeartbeats 16000000 in
theorem walk (a : Option Addr) (n c : Nat) (z : List OpL) (w : World) (h : OpAt w a n c z) :
    Calls Try.prog 8 #[.slice a n c] w fun e w' => e = .returned (.bool true) ∧ Below w.heap.size w w' := by
  have HZ := Lib.hid (build9_any a n c z w h)
  clear h
  go_enter Try.func8, Try.ntmps8
  go_wp2_with fail
  refine HZ.out.mono ?_
  rintro e w1 ⟨x, bl, bn, ρ, E, rfl, x1, e40, b1, f1⟩
  have E40 := Lib.hid e40
  have HG := Lib.hid x1.good
  go_wp2_with fail
  refine (ikeys_ok w1 x bl bn ρ E x1 (by omega)).mono ?_
  rintro e w2 ⟨ak, ck, rfl, tk, b2⟩
  have X0 := Lib.hid (x1.keep b2)
  have B0 := Lib.hid (b1.trans (b2.mono b1.size))
  have hkl : (keysL E).length = E.length := by unfold keysL; rw [List.length_map]
  rw [hkl] at tk
  rw [hkl]
  obtain ⟨m, hm⟩ : ∃ m, E.length = m := ⟨_, rfl⟩
  rw [hm] at tk e40
  rw [hm]
  have T0 := Lib.hid tk
  have HM := Lib.hid hm
  clear hm hkl tk b2 b1 x1 f1 HZ
  have C0 := Lib.hid (Cov.zero E)
  go_wp2_with fail
  go_loopw [4, 6] (fun vo vi wr => ∃ (j : Nat) (o : List Tx) (an : Option Addr) (nn cn : Nat), vo = .slice an nn cn ∧ vi = .int .i64 (j : Int) ∧ j ≤ m ∧ nn ≤ 8 * j ∧ Hid (TxAt wr an nn cn o) ∧ Hid (Below w.heap.size w wr) ∧ Hid (IxAt wr x bl bn ρ E) ∧ Hid (TxAt wr ak m ck (keysL E)) ∧ Hid (Cov E j [] o)) (fun _ vi _ => m - (intOf vi).toNat)
  case atStart => exact ⟨0, [], none, 0, 0, rfl, rfl, Nat.zero_le _, Nat.le_refl _, Lib.hid (TxAt.nil _ _ _), B0, X0, T0, C0⟩
  case round =>
    obtain ⟨j, o, an, nn, cn, rfl, rfl, hj, hnn, TO, HB, HX, TK, HC⟩ := hrel
    clear B0 X0 T0 C0
    by_cases hjn : j < m
    · have hjz : (j : Int) < (m : Int) := by omega
      have hj0 : (0 : Int) ≤ (j : Int) := by omega
      have hjE : j < E.length := by rw [HM.out]; exact hjn
      obtain ⟨pb, po, e1, hpb, x0⟩ := TK.out.at_ j hjn
      subst e1
      rw [keysL_at hjE] at x0
      have HL0 := Lib.hid (show (look E E[j].1).getD [] = E[j].2 from by rw [look_at HG.out.ss hjE]; rfl)
      have HR := Lib.hid (HG.out.right _ (List.getElem_mem hjE))
      have HJ := Lib.hid hjE
      have HN := Lib.hid (fun (o' : List Tx) (hc : Cov E j E[j].2 o') => Cov.next hjE hc)
      generalize E[j] = p at *
      clear hjE
      obtain ⟨key, l⟩ := p
      have HLC := Lib.hid (ilabels_ok wr x bl bn ρ E key HX.out)
      rw [show (look E key).getD [] = l from HL0.out] at HLC
      go_wp2_with fail
      refine HLC.out.mono ?_
      rintro e w3 ⟨al, cl, rfl, tl, b3⟩
      have hq8 : l.length ≤ 8 := HR.out.1
      have HRL := Lib.hid (show ∀ y ∈ l, keyB y.1 ∧ keyB y.2 from HR.out.2.1)
      obtain ⟨q, hq⟩ : ∃ q, l.length = q := ⟨_, rfl⟩
      rw [hq] at tl hq8
      rw [hq]
      have HQ := Lib.hid hq
      have TL0 := Lib.hid tl
      have X3 := Lib.hid (HX.out.keep b3)
      have B3 := Lib.hid (HB.out.trans (b3.mono HB.out.size))
      have T3 := Lib.hid (TK.out.keep b3)
      have O3 := Lib.hid (TO.out.keep b3)
      have C3 : Hid (Cov E j (l.take 0) o) := HC
      clear hq tl b3 HLC HX HB TK TO HR HL0 x0 HC
      obtain ⟨wo, rfl⟩ : ∃ wo : World, wo = wr := ⟨_, rfl⟩
      go_wp2_with fail
      go_loopw [4, 8] (fun vo vi wr => ∃ (k : Nat) (o : List Tx) (an : Option Addr) (nn cn : Nat), vo = .slice an nn cn ∧ vi = .int .i64 (k : Int) ∧ k ≤ q ∧ nn ≤ 8 * j + k ∧ Hid (TxAt wr an nn cn o) ∧ Hid (Below w.heap.size w wr) ∧ Hid (IxAt wr x bl bn ρ E) ∧ Hid (TxAt wr (some ⟨pb, po, none⟩) m ck (keysL E)) ∧ Hid (LbAt wr al q cl l) ∧ Hid (Cov E j (l.take k) o)) (fun _ vi _ => q - (intOf vi).toNat)
      case atStart => exact ⟨0, o, an, nn, cn, rfl, rfl, Nat.zero_le _, by omega, O3, B3, X3, T3, TL0, C3⟩
      case round =>
        obtain ⟨k, o, an, nn, cn, rfl, rfl, hk, hnn, TO, HB, HX, TK, TL, HC⟩ := hrel
        clear B3 X3 T3 C3 O3 TL0
        by_cases hkn : k < q
        · have hkz : (k : Int) < (q : Int) := by omega
          have hk0 : (0 : Int) ≤ (k : Int) := by omega
          obtain ⟨qb, qo, e1, hqb, y0, y1⟩ := TL.out.at_ k hkn
          subst e1
          have hkl : k < l.length := by rw [HQ.out]; exact hkn
          have hK : keyB (lN l k) := (HRL.out _ (lb_mem hkl)).1
          have HS := Lib.hid (show l.take (k + 1) = l.take k ++ [(lN l k, lV l k)] from take_snoc9 hkl)
          have HK := Lib.hid (show (lN l k).length ≤ 64 from hK.2)
          clear hkl hK
          generalize lN l k = nm at *
          generalize lV l k = vl at *
          have HA := Lib.hid (radd8_any an nn cn o nm wr TO.out (fun y hy => by have := HC.out.short y hy; omega) (by have := HK.out; omega) (by omega))
          go_wp2_with fail
          refine HA.out.mono ?_
          intro e w4 hm
          obtain ⟨a4, c4, rfl, t4, b4⟩ := hm.to
          have X4 := Lib.hid (HX.out.keep b4)
          have B4 := Lib.hid (HB.out.trans (b4.mono HB.out.size))
          have T4 := Lib.hid (TK.out.keep b4)
          have L4 := Lib.hid (TL.out.keep b4)
          have C4 := Lib.hid (HC.out.ins (v := vl) HK.out)
          have hle : (insS nm o).length ≤ nn + 1 := by rw [← TO.out.1]; exact insS_len nm o
          have O4 := Lib.hid t4
          clear hm t4 b4 HA HX HB TK TO TL HC
          rw [← HS.out] at C4
          go_wp2
          go_roundw
          case rel => exact ⟨k + 1, insS nm o, a4, _, c4, rfl, by go_num, by omega, by omega, O4, B4, X4, T4, L4, C4⟩
          case measure => simp [intOf]; omega
        · have hkz : ¬ (k : Int) < (q : Int) := by omega
          obtain rfl : k = q := by omega
          rw [List.take_of_length_le (by rw [HQ.out]; exact Nat.le_refl _)] at HC
          have C5 := Lib.hid (HN.out o HC.out)
          go_wp2
          go_roundw
          case rel => exact ⟨j + 1, o, an, nn, cn, rfl, by go_num, by omega, by omega, TO, HB, HX, TK, C5⟩
          case measure => simp [intOf]; omega
    · have hjz : ¬ (j : Int) < (m : Int) := by omega
      obtain rfl : j = m := by omega
      have HA := Lib.hid (show ∀ p ∈ E, ∀ k ∈ keysL p.2, k ∈ o from fun p hp => HC.out.all p (by rw [List.take_of_length_le (by rw [HM.out]; exact Nat.le_refl _)]; exact hp))
      have HT := Lib.hid (show cntW E o = sizeE E from cnt_all (ss_nodup HC.out.ss) E (fun p hp => (HG.out.right p hp).2.2) HA.out)
      obtain ⟨wo, rfl⟩ : ∃ wo : World, wo = wr := ⟨_, rfl⟩
      go_wp2_with fail
      go_loopw [9, 10] (fun vs vi wr => ∃ (i s : Nat), vs = .int .i64 (s : Int) ∧ vi = .int .i64 (i : Int) ∧ i ≤ nn ∧ s ≤ 40 * i ∧ Hid (s = cntW E (o.take i)) ∧ Hid (TxAt wr an nn cn o) ∧ Hid (Below w.heap.size w wr) ∧ Hid (IxAt wr x bl bn ρ E)) (fun _ vi _ => nn - (intOf vi).toNat)
      case atStart => exact ⟨0, 0, rfl, rfl, Nat.zero_le _, Nat.le_refl _, Lib.hid rfl, TO, HB, HX⟩
      case round =>
        obtain ⟨i, s, rfl, rfl, hi, hs, HS, TO, HB, HX⟩ := hrel
        by_cases hin : i < nn
        · have hiz : (i : Int) < (nn : Int) := by omega
          have hi0 : (0 : Int) ≤ (i : Int) := by omega
          obtain ⟨qb, qo, e1, hqb, y0⟩ := TO.out.at_ i hin
          subst e1
          have hio : i < o.length := by rw [TO.out.1]; exact hin
          have HSN := Lib.hid (cnt_snoc (E := E) hio)
          rw [getD_get hio] at y0
          have HNE := Lib.hid hio
          generalize o[i] = nm at *
          clear hio
          have HW := Lib.hid (iwith_ok wr x bl bn ρ E nm HX.out (by have := E40.out; omega))
          have hwl : (withE E nm).length ≤ 40 := Nat.le_trans (with_len E nm) E40.out
          go_wp2_with fail
          refine HW.out.mono ?_
          rintro e w4 ⟨a4, c4, rfl, t4, b4⟩
          have X4 := Lib.hid (HX.out.keep b4)
          have B4 := Lib.hid (HB.out.trans (b4.mono HB.out.size))
          have T4 := Lib.hid (TO.out.keep b4)
          have HS4 := Lib.hid (show s + (withE E nm).length = cntW E (o.take (i + 1)) from by rw [HSN.out, HS.out])
          clear t4 b4 HW HX HB TO HS HSN
          generalize (withE E nm).length = q4 at *
          go_wp2
          go_roundw
          case rel => exact ⟨i + 1, s + q4, by go_num, by go_num, by omega, by omega, HS4, T4, B4, X4⟩
          case measure => simp [intOf]; omega
        · have hiz : ¬ (i : Int) < (nn : Int) := by omega
          obtain rfl : i = nn := by omega
          rw [List.take_of_length_le (by rw [TO.out.1]; exact Nat.le_refl _), HT.out] at HS
          have HZ := Lib.hid (isize_ok wr x bl bn ρ E HX.out (by have := E40.out; omega))
          rw [← HS.out] at HZ
          go_wp2_with fail
          refine HZ.out.mono ?_
          rintro e w5 ⟨rfl, b5⟩
          go_wp2_with fail
          refine (iknown_any w5).mono ?_
          rintro e w6 ⟨rfl, b6⟩
          go_wp2
          go_ret
          have B6 := HB.out.trans (b5.mono HB.out.size)
          exact ⟨rfl, B6.trans (b6.mono B6.size)⟩

set_option maxRecDepth 100000 in
theorem lifted (os : Os) (started : os.Started) (H : Type) (enc : TypeId × Value → H) :
    ReturnsInHanded {} Try.checked os 8 .any (Rows.indexSizesSpec.pre6 enc Try.prog Try.f8 Rows.indexSizesRow.domain false) (Rows.indexSizesSpec.post enc Try.prog Try.f8 false true false false) := by
  refine returnsInHanded_of_change (C := Try.checked) own started (by kernel_rfl) Try.func8
    (ChangeSpec.witness6 (enc := enc) (C := Try.checked) false ⟨#[], #[.slice none 0 0], []⟩ 8 (by kernel_rfl) (by kernel_rfl) (by kernel_rfl) (by kernel_rfl)) ?_
  intro W base args ds gs before hval0 hW hcnd _
  have hval : ∀ (j : Nat) t v, Try.f8.params[j]? = some t → args[j]? = some v → Value.okWide Try.prog W .any base t v := hval0
  have hW' := hW
  obtain ⟨p, q, hA0, hV, rfl, hfz, hnd⟩ := hW
  have hA : DataW.TrodAll enc Try.prog W 0 (fun _ => true) true Try.f8.params.toList args.toList ds p := hA0
  rw [Try.params8] at hA hval
  obtain ⟨v0, vs0, d0, ds0, p0, q0, hargs, rfl, rfl, h0, r0⟩ := trodAll_cons hA
  obtain ⟨rfl, rfl, rfl⟩ := trodAll_nil r0
  obtain rfl : args = #[v0] := by cases args; simp_all
  obtain ⟨rfl, rfl⟩ := trodVars_none hV
  obtain ⟨a0, len0, cap0, rfl⟩ := okWide_slice Try.underlying22 (hval 0 22 v0 rfl rfl)
  have k0 := h0
  have lt0 : ∀ x ∈ p0, x.block < W.heap.size := by obtain ⟨m, hm⟩ := k0; exact DataW.trod_lt m _ _ _ hm
  obtain ⟨z0, w0⟩ := open_ops9 h0
  clear hA0 hval0
  refine (walk a0 len0 cap0 z0 W w0).mono fun e W' ⟨he, bel⟩ => ?_
  subst he
  exact ⟨_, rfl, _, _, _, [], _, [], hW', trodAll_mk1 (shut_bool Try.underlying4 _), (trodAll_cons_mk (Below.trod laidOut (by kernel_rfl) (of_decide_eq_true (by kernel_rfl)) k0 bel lt0) trodAll_mk0), rfl, bel.frame _, fun h => by cases h⟩

theorem over : Rows.indexSizesRow.holds Try.pinned (OpenSpec.ofChange Rows.indexSizesSpec) :=
  OpenClaim.holds_of_wide 8 Try.f8 rfl rfl rfl rfl rfl rfl rfl ⟨rfl, rfl, rfl, rfl, rfl⟩ rfl rfl rfl rfl rfl (by kernel_rfl) Try.func8 (by kernel_rfl)
    (of_decide_eq_true (by kernel_rfl)) (by unfold Func.isWrapper; first | (rw [if_pos (by decide +kernel)]; kernel_rfl) | (rw [if_neg (by decide +kernel)]; exact ⟨rfl, rfl⟩))
    (fun os started H enc _ => lifted os started H enc)

theorem proved : Rows.IndexSizesSaid := over
end indexSizes
theorem indexSizes_holds : Rows.IndexSizesSaid := indexSizes.proved
#print axioms indexSizes_holds
end Go.Proofs.Ytpkbkemenfdadaa
