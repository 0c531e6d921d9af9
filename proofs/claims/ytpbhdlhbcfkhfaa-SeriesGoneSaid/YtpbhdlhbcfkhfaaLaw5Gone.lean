/-
  The statement 'SeriesGone' of layer 5: for every calls and every two times, deleted samples are there no more; as many went as were told; the line, and Max, stay as they were.
  No condition.
-/
import Derived.Test.YtpbhdlhbcfkhfaaSKnown
import Derived.Test.YtpbhdlhbcfkhfaaSOps
import Derived.ShutString
import Derived.ChangeOld
import Derived.Lib.SmallJoins
namespace Go.Proofs.Ytpbhdlhbcfkhfaa
namespace seriesGone
open Go.ChangeShapes Go.WideShapes Go.ChangeAt Go.RowKit
set_option linter.unusedVariables false
set_option linter.unusedSimpArgs false

theorem own : ownKnob Try.prog.godebug = none := by kernel_rfl
theorem laidOut : laidOutB Try.prog = true := by kernel_rfl

theorem filter_parts (p : Int × Int → Bool) (z : List (Int × Int)) : (z.filter p).length + (z.filter fun u => !p u).length = z.length := by
  induction z with
  | nil => rfl
  | cons a l ih =>
    by_cases h : p a = true
    · rw [List.filter_cons_of_pos h, List.filter_cons_of_neg (by simp [h]), List.length_cons, List.length_cons]; omega
    · rw [List.filter_cons_of_neg h, List.filter_cons_of_pos (by simpa using h), List.length_cons, List.length_cons]; omega
/-- How many are taken out: as many as are in the range. -/
theorem dropN_in {z : List (Int × Int)} (h : Rising z) (x y : Int) : (z.filter (inB x y)).length = dropN z x y := by
  have h1 := dropN_len z x y
  rw [← filter_is h] at h1
  have h2 : (z.filter (fun u => decide (u.1 < x) || decide (y < u.1))) = z.filter (fun u => !inB x y u) := by
    apply List.filter_congr
    intro u _
    exact kept_in x y u
  rw [h2] at h1
  have h3 := filter_parts (inB x y) z
  omega
theorem gone_in {z : List (Int × Int)} (h : Rising z) (x y : Int) : (dropL z x y).filter (inB x y) = [] := by
  rw [← filter_is h]
  apply List.filter_eq_nil_iff.2
  intro u hu
  have h1 := (List.mem_filter.1 hu).2
  have h2 : keptB x y u = true := h1
  rw [kept_in] at h2
  simpa using h2
theorem gone_twice {z : List (Int × Int)} (h : Rising z) (x y : Int) : dropN (dropL z x y) x y = 0 := by
  rw [← dropN_in (dropL_rising h x y), gone_in h]; rfl

set_option maxRecDepth 100000 in
set_option maxHeartbeats 8000000 in
theorem walk (a : Option Addr) (len cap : Nat) (zz : List Cl) (x y : Int) (w : World) (hz : OpsC w a len zz) (hx : (Lit.int .i64 x).wf = true) (hy : (Lit.int .i64 y).wf = true) :
    Calls Try.prog 10 #[.slice a len cap, .int .i64 x, .int .i64 y] w fun e w' => e = .returned (.bool true) ∧ Below w.heap.size w w' := by
  have hlen := hz.2.1
  have HZ := Lib.hid hz
  clear hz hx hy
  go_enter Try.func10, Try.ntmps10
  go_wp2_with fail
  refine (snew_at 128 30 3 w (by omega) (by omega) (by decide)).mono ?_
  rintro e W0 ⟨b, rfl, S0', hb, B0⟩
  have S0 := Lib.hid S0'
  have ST0 := Lib.hid (Std.new (ret := 30) (p := 3) (by decide))
  clear S0'
  go_wp2_with fail
  go_loopw [9] (fun i wr => ∃ (j : Nat) (s : Ser), j ≤ len ∧ j ≤ 60 ∧ i = .int .i64 (j : Int) ∧ SerAt wr b 128 s ∧ Std s ∧ s.z.length ≤ j ∧ Below w.heap.size w wr) (fun i _ => len - (intOf i).toNat)
  case atStart => exact ⟨0, newSer 30 3, Nat.zero_le _, Nat.zero_le _, rfl, S0.out, ST0.out, Nat.le_refl _, B0⟩
  case round =>
    obtain ⟨j, s, hj, hj2, rfl, hS, hSt, hsl, B1⟩ := hrel
    have HS := Lib.hid hS
    have HST := Lib.hid hSt
    clear hS hSt
    by_cases hjl : j < len
    · by_cases hjh : j < 60
      · have hjh' : (j : Int) < 60 := by omega
        obtain ⟨q, o, hqe, hq, x0, x1, x2, x3, h64⟩ := HZ.out.at_ j hjl
        subst hqe
        rw [← B1.cell hq] at x0 x1 x2 x3
        generalize opOf zz j = op at *
        obtain ⟨K, TT, VV, PP⟩ := op
        replace x0 : wr.cell? ⟨q, o + j * 4, none⟩ = some (.int .i64 K) := x0
        replace x1 : wr.cell? ⟨q, o + j * 4 + 1, none⟩ = some (.int .i64 TT) := x1
        replace x2 : wr.cell? ⟨q, o + j * 4 + 2, none⟩ = some (.int .i64 VV) := x2
        replace x3 : wr.cell? ⟨q, o + j * 4 + 3, none⟩ = some (.int .i64 PP) := x3
        have h64T : in64 TT := h64.2.1
        have h64V : in64 VV := h64.2.2.1
        have h64P : in64 PP := h64.2.2.2
        have hj0 : (0 : Int) ≤ (j : Int) := by omega
        have hj1 : (j : Int) < (len : Int) := by omega
        clear h64
        by_cases hK : K = 0
        · subst hK
          go_wp2_with fail
          refine (add_ser b 128 s TT VV 0 wr HS.out HST.out (by omega) (by omega) (by omega) h64V).mono ?_
          rintro e W2 ⟨rfl, S2, g2⟩
          have HS2 := Lib.hid S2
          have B2 := bel_gb B1 B1.size hb g2
          have HST2 := Lib.hid (HST.out.add TT VV 0 h64V)
          have hl2 : (addS5 s TT VV 0).z.length ≤ j + 1 := by have := add_len HST.out.rise TT VV 0; omega
          clear S2 g2 x0 x1 x2 x3
          generalize addE s TT VV 0 = er at *
          generalize addS5 s TT VV 0 = s2 at *
          go_wp2
          go_roundw
          case rel => exact ⟨j + 1, s2, by omega, by omega, by go_num, HS2.out, HST2.out, hl2, B2⟩
          case measure => simp [intOf]; omega
        · have hKb : (K == 0) = false := by rw [beq_eq_false_iff_ne]; exact hK
          go_wp2
          go_roundw
          case rel => exact ⟨j + 1, s, by omega, by omega, by go_num, HS.out, HST.out, by omega, B1⟩
          case measure => simp [intOf]; omega
      · have hjh' : ¬ (j : Int) < 60 := by omega
        have hj1 : (j : Int) < (len : Int) := by omega
        have HR := Lib.hid HST.out.rise
        have hsl' : s.z.length ≤ 60 := by omega
        clear hsl
        go_wp2_with fail
        refine (sline_ok b 128 s wr HS.out (by omega)).mono ?_
        rintro e w' ⟨rfl, rfl⟩
        go_wp2_with fail
        refine (smax_ok b 128 s wr HS.out (by omega)).mono ?_
        rintro e w' ⟨rfl, rfl⟩
        go_wp2_with fail
        refine (len_ser b 128 s wr HS.out (by omega) (by omega)).mono ?_
        rintro e w' ⟨rfl, rfl⟩
        go_wp2_with fail
        refine (range_ser b 128 s x y wr HS.out (by omega) HR.out (by omega)).mono ?_
        rintro e W3 ⟨a3, c3, rfl, _, b3⟩
        have B3 := B1.trans (b3.mono B1.size)
        have HS3 := Lib.hid (HS.out.keepB b3)
        have HIN := Lib.hid (dropN_in HR.out x y)
        rw [HIN.out]
        clear b3
        go_wp2_with fail
        refine (del_any b 128 s x y W3 HS3.out (by omega) (by omega) HR.out (by omega)).mono ?_
        rintro e W4 ⟨rfl, S4, g4⟩
        have HS4 := Lib.hid S4
        have B4 := bel_gb B3 B3.size hb g4
        have HRD := Lib.hid (show Rising (delS s x y).z from dropL_rising HR.out x y)
        have hdl : (delS s x y).z.length + dropN s.z x y = s.z.length := by show (dropL s.z x y).length + _ = _; have := dropN_len s.z x y; omega
        have HGI := Lib.hid (show (delS s x y).z.filter (inB x y) = [] from gone_in HR.out x y)
        have HGT := Lib.hid (show dropN (delS s x y).z x y = 0 from gone_twice HR.out x y)
        have HLL := Lib.hid (show (delS s x y).line = s.line from rfl)
        have HMM := Lib.hid (show (delS s x y).mx = s.mx from rfl)
        clear S4 g4 HS3
        generalize delS s x y = s4 at *
        generalize dropN s.z x y = dn at *
        go_wp2_with fail
        refine (len_ser b 128 s4 W4 HS4.out (by omega) (by omega)).mono ?_
        rintro e w' ⟨rfl, rfl⟩
        have hsub : ((s4.z.length : Int) == (s.z.length : Int) - (dn : Int)) = true := by rw [beq_iff_eq]; omega
        go_wp2_with fail
        refine (range_ser b 128 s4 x y W4 HS4.out (by omega) HRD.out (by omega)).mono ?_
        rintro e W5 ⟨a5, c5, rfl, _, b5⟩
        have B5 := B4.trans (b5.mono B4.size)
        have HS5 := Lib.hid (HS4.out.keepB b5)
        rw [HGI.out]
        clear b5
        go_wp2_with fail
        refine (sline_ok b 128 s4 W5 HS5.out (by omega)).mono ?_
        rintro e w' ⟨rfl, rfl⟩
        rw [HLL.out]
        go_wp2_with fail
        refine (smax_ok b 128 s4 W5 HS5.out (by omega)).mono ?_
        rintro e w' ⟨rfl, rfl⟩
        rw [HMM.out]
        go_wp2_with fail
        refine (del_any b 128 s4 x y W5 HS5.out (by omega) (by omega) HRD.out (by omega)).mono ?_
        rintro e W6 ⟨rfl, _, g6⟩
        have B6 := bel_gb B5 B5.size hb g6
        rw [HGT.out]
        clear g6
        go_wp2_with fail
        refine (sknown_any W6).mono ?_
        rintro e W7 ⟨rfl, b7⟩
        have B7 := B6.trans (b7.mono B6.size)
        clear b7
        go_wp2
        go_ret
        exact ⟨rfl, B7⟩
    · have hj1 : ¬ (j : Int) < (len : Int) := by omega
      have HR := Lib.hid HST.out.rise
      have hsl' : s.z.length ≤ 60 := by omega
      clear hsl
      go_wp2_with fail
      refine (sline_ok b 128 s wr HS.out (by omega)).mono ?_
      rintro e w' ⟨rfl, rfl⟩
      go_wp2_with fail
      refine (smax_ok b 128 s wr HS.out (by omega)).mono ?_
      rintro e w' ⟨rfl, rfl⟩
      go_wp2_with fail
      refine (len_ser b 128 s wr HS.out (by omega) (by omega)).mono ?_
      rintro e w' ⟨rfl, rfl⟩
      go_wp2_with fail
      refine (range_ser b 128 s x y wr HS.out (by omega) HR.out (by omega)).mono ?_
      rintro e W3 ⟨a3, c3, rfl, _, b3⟩
      have B3 := B1.trans (b3.mono B1.size)
      have HS3 := Lib.hid (HS.out.keepB b3)
      have HIN := Lib.hid (dropN_in HR.out x y)
      rw [HIN.out]
      clear b3
      go_wp2_with fail
      refine (del_any b 128 s x y W3 HS3.out (by omega) (by omega) HR.out (by omega)).mono ?_
      rintro e W4 ⟨rfl, S4, g4⟩
      have HS4 := Lib.hid S4
      have B4 := bel_gb B3 B3.size hb g4
      have HRD := Lib.hid (show Rising (delS s x y).z from dropL_rising HR.out x y)
      have hdl : (delS s x y).z.length + dropN s.z x y = s.z.length := by show (dropL s.z x y).length + _ = _; have := dropN_len s.z x y; omega
      have HGI := Lib.hid (show (delS s x y).z.filter (inB x y) = [] from gone_in HR.out x y)
      have HGT := Lib.hid (show dropN (delS s x y).z x y = 0 from gone_twice HR.out x y)
      have HLL := Lib.hid (show (delS s x y).line = s.line from rfl)
      have HMM := Lib.hid (show (delS s x y).mx = s.mx from rfl)
      clear S4 g4 HS3
      generalize delS s x y = s4 at *
      generalize dropN s.z x y = dn at *
      go_wp2_with fail
      refine (len_ser b 128 s4 W4 HS4.out (by omega) (by omega)).mono ?_
      rintro e w' ⟨rfl, rfl⟩
      have hsub : ((s4.z.length : Int) == (s.z.length : Int) - (dn : Int)) = true := by rw [beq_iff_eq]; omega
      go_wp2_with fail
      refine (range_ser b 128 s4 x y W4 HS4.out (by omega) HRD.out (by omega)).mono ?_
      rintro e W5 ⟨a5, c5, rfl, _, b5⟩
      have B5 := B4.trans (b5.mono B4.size)
      have HS5 := Lib.hid (HS4.out.keepB b5)
      rw [HGI.out]
      clear b5
      go_wp2_with fail
      refine (sline_ok b 128 s4 W5 HS5.out (by omega)).mono ?_
      rintro e w' ⟨rfl, rfl⟩
      rw [HLL.out]
      go_wp2_with fail
      refine (smax_ok b 128 s4 W5 HS5.out (by omega)).mono ?_
      rintro e w' ⟨rfl, rfl⟩
      rw [HMM.out]
      go_wp2_with fail
      refine (del_any b 128 s4 x y W5 HS5.out (by omega) (by omega) HRD.out (by omega)).mono ?_
      rintro e W6 ⟨rfl, _, g6⟩
      have B6 := bel_gb B5 B5.size hb g6
      rw [HGT.out]
      clear g6
      go_wp2_with fail
      refine (sknown_any W6).mono ?_
      rintro e W7 ⟨rfl, b7⟩
      have B7 := B6.trans (b7.mono B6.size)
      clear b7
      go_wp2
      go_ret
      exact ⟨rfl, B7⟩
set_option maxRecDepth 100000 in
theorem lifted (os : Os) (started : os.Started) (H : Type) (enc : TypeId × Value → H) :
    ReturnsInHanded {} Try.checked os 10 .any (Rows.seriesGoneSpec.pre6 enc Try.prog Try.f10 Rows.seriesGoneRow.domain false) (Rows.seriesGoneSpec.post enc Try.prog Try.f10 false true false false) := by
  refine returnsInHanded_of_change (C := Try.checked) own started (by kernel_rfl) Try.func10
    (ChangeSpec.witness6 (enc := enc) (C := Try.checked) false ⟨#[], #[.slice none 0 0, .int .i64 0, .int .i64 0], []⟩ 8 (by kernel_rfl) (by kernel_rfl) (by kernel_rfl) (by kernel_rfl)) ?_
  intro W base args ds gs before hval0 hW hcnd _
  have hval : ∀ (j : Nat) t v, Try.f10.params[j]? = some t → args[j]? = some v → Value.okWide Try.prog W .any base t v := hval0
  have hW' := hW
  obtain ⟨p, q, hA0, hV, rfl, hfz, hnd⟩ := hW
  have hA : DataW.TrodAll enc Try.prog W 0 (fun _ => true) true Try.f10.params.toList args.toList ds p := hA0
  rw [Try.params10] at hA hval
  obtain ⟨v0, vs0, d0, ds0, p0, q0, hargs, rfl, rfl, h0, r0⟩ := trodAll_cons hA
  obtain ⟨v1, vs1, d1, ds1, p1, q1, rfl, rfl, rfl, h1, r1⟩ := trodAll_cons r0
  obtain ⟨v2, vs2, d2, ds2, p2, q2, rfl, rfl, rfl, h2, r2⟩ := trodAll_cons r1
  obtain ⟨rfl, rfl, rfl⟩ := trodAll_nil r2
  obtain rfl : args = #[v0, v1, v2] := by cases args; simp_all
  obtain ⟨rfl, rfl⟩ := trodVars_none hV
  obtain ⟨a0, len0, cap0, rfl⟩ := okWide_slice Try.underlying23 (hval 0 23 v0 rfl rfl)
  have k0 := h0
  have lt0 : ∀ x ∈ p0, x.block < W.heap.size := by obtain ⟨m, hm⟩ := k0; exact DataW.trod_lt m _ _ _ hm
  obtain ⟨z0, w0⟩ := open_sops h0
  obtain ⟨a1, rfl, rfl, rfl, w1⟩ := open_int Try.underlying3 (hval 1 3 v1 rfl rfl) h1
  obtain ⟨a2, rfl, rfl, rfl, w2⟩ := open_int Try.underlying3 (hval 2 3 v2 rfl rfl) h2
  clear hA0 hval0
  refine (walk a0 len0 cap0 z0 a1 a2 W w0 w1 w2).mono fun e W' ⟨he, bel⟩ => ?_
  subst he
  exact ⟨_, rfl, _, _, _, [], _, [], hW', trodAll_mk1 (shut_bool Try.underlying4 _), (trodAll_cons_mk (Below.trod laidOut (by kernel_rfl) (of_decide_eq_true (by kernel_rfl)) k0 bel lt0) (trodAll_cons_mk (shut_int Try.underlying3 w1) (trodAll_cons_mk (shut_int Try.underlying3 w2) trodAll_mk0))), rfl, bel.frame _, fun h => by cases h⟩

theorem over : Rows.seriesGoneRow.holds Try.pinned (OpenSpec.ofChange Rows.seriesGoneSpec) :=
  OpenClaim.holds_of_wide 10 Try.f10 rfl rfl rfl rfl rfl rfl rfl ⟨rfl, rfl, rfl, rfl, rfl⟩ rfl rfl rfl rfl rfl (by kernel_rfl) Try.func10 (by kernel_rfl)
    (of_decide_eq_true (by kernel_rfl)) (by unfold Func.isWrapper; first | (rw [if_pos (by decide +kernel)]; kernel_rfl) | (rw [if_neg (by decide +kernel)]; exact ⟨rfl, rfl⟩))
    (fun os started H enc _ => lifted os started H enc)

theorem proved : Rows.SeriesGoneSaid := over
end seriesGone
theorem seriesGone_holds : Rows.SeriesGoneSaid := seriesGone.proved
#print axioms seriesGone_holds
end Go.Proofs.Ytpbhdlhbcfkhfaa
