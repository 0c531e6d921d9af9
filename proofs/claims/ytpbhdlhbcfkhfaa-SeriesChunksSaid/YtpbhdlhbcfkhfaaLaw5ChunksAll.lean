/-
  The statement 'SeriesChunks' of layer 5: for every size and every calls, chunks stand as they must, and there are no more than the bytes of the longest samples, 17 each, can fill quarters of, twice, and one.
  No condition.
-/
import Derived.Test.YtpbhdlhbcfkhfaaSUse
import Derived.Test.YtpbhdlhbcfkhfaaSKnown
import Derived.Test.YtpbhdlhbcfkhfaaSOps
import Derived.ShutString
import Derived.ChangeOld
import Derived.Lib.SmallJoins
/-
  Contract of 'whole' of the statements of layer 5: chunks stand as they must.
-/
namespace Go.Proofs.Ytpbhdlhbcfkhfaa
open Go.RowKit
set_option linter.unusedVariables false
set_option linter.unusedSimpArgs false

theorem ns_get (Z : List (List (Int × Int))) (i : Nat) (h : i < Z.length) : (Z.map fun z => (usedL z : Int)).getD i 0 = (usedL (Z.getD i []) : Int) := by
  rw [List.getD_eq_getElem?_getD, List.getElem?_map, List.getElem?_eq_getElem h, chunk_get h]; rfl

set_option maxRecDepth 100000 in
set_option maxHeartbeats 4000000 in
theorem whole_any (b : Nat) (sz : Int) (s : Ser) (w : World) (h : SerAt w b sz s) (hs : 128 ≤ sz) (hs2 : sz ≤ 4096) (hn : s.z.length ≤ 1000) :
    Calls Try.prog 14 #[.pointer (some ⟨b, 0, none⟩), .int .i64 sz] w fun e w' => e = .returned (.bool true) ∧ Below w.heap.size w w' := by
  have HS := Lib.hid h
  clear h
  go_enter Try.func14, Try.ntmps14
  go_wp2_with fail
  refine (chunks_ser b sz s w HS.out hs (by omega)).mono ?_
  rintro e W1 ⟨v, Z, rfl, hg, hf, r1, b1⟩
  obtain ⟨a, cap, rfl, hc⟩ := r1.shape
  have HS1 := Lib.hid (HS.out.keepB b1)
  have hzl : Z.length ≤ 1000 := by have := flat_ge (good_ne hg); omega
  have HZF : Hid (0 < Z.length ↔ 0 < s.z.length) := Lib.hid (by
    rw [← hf]
    have := flat_ge (good_ne hg)
    constructor
    · omega
    · intro h0
      cases Z with
      | nil => simp at h0
      | cons x l => simp)
  have HG := Lib.hid hg
  have HCC : Hid (∀ i, i < Z.length → ∃ g, a = some ⟨g, 0, none⟩ ∧ W1.cell? ⟨g, i, none⟩ = some (.int .i64 (usedL (Z.getD i []) : Int))) := Lib.hid (fun i hi => by
    obtain ⟨g, h1, _, h2⟩ := hc i (by rw [List.length_map]; exact hi)
    exact ⟨g, h1, by rw [h2, ns_get Z i hi]⟩)
  rw [List.length_map]
  obtain ⟨n, hnn⟩ : ∃ n, Z.length = n := ⟨_, rfl⟩
  rw [hnn] at hzl HCC HZF ⊢
  have HN := Lib.hid hnn
  clear hg hf r1 hc HS hnn
  go_wp2_with fail
  go_loop [6] (fun i => ∃ j : Nat, j ≤ n ∧ i = .int .i64 (j : Int)) (fun i => n - (intOf i).toNat)
  case atStart => exact ⟨0, Nat.zero_le _, rfl⟩
  case round =>
    obtain ⟨j, hj, rfl⟩ := hrel
    by_cases hjn : j < n
    · obtain ⟨g, ha, c1⟩ := HCC.out j hjn
      subst ha
      have hu := good_used HG.out j (by rw [HN.out]; exact hjn)
      have hj0 : (0 : Int) ≤ (j : Int) := by omega
      have hj1 : (j : Int) < (n : Int) := by omega
      by_cases hjz : j = 0
      · subst hjz
        have c1' : W1.cell? ⟨g, 0, none⟩ = some (.int .i64 (usedL (Z.getD 0 []) : Int)) := c1
        clear c1
        generalize usedL (Z.getD 0 []) = u at *
        have h1 : ¬ (u : Int) < 1 := by omega
        have h2 : ¬ (u : Int) > sz := by omega
        go_wp2
        go_round
        case rel => exact ⟨1, by omega, by go_num⟩
        case measure => simp [intOf]; omega
      · obtain ⟨k, rfl⟩ : ∃ k, j = k + 1 := ⟨j - 1, by omega⟩
        obtain ⟨g', ha', c2⟩ := HCC.out k (by omega)
        cases ha'
        have hap := good_apart HG.out k (by rw [HN.out]; exact hjn)
        have hu2 := good_used HG.out k (by rw [HN.out]; omega)
        have hgt : ((k + 1 : Nat) : Int) > 0 := by omega
        have hk0 : ((k + 1 : Nat) : Int) - 1 = (k : Int) := by omega
        have hk1 : (0 : Int) ≤ (k : Int) := by omega
        have hk2 : (k : Int) < (n : Int) := by omega
        generalize usedL (Z.getD (k + 1) []) = u at *
        generalize usedL (Z.getD k []) = u2 at *
        have h1 : ¬ (u : Int) < 1 := by omega
        have h2 : ¬ (u : Int) > sz := by omega
        by_cases h3 : 4 * (u : Int) < sz
        · have h4 : ¬ 4 * (u2 : Int) < sz := fun h => hap ⟨h3, h⟩
          clear hap
          go_wp2
          go_round
          case rel => exact ⟨k + 1 + 1, by omega, by go_num⟩
          case measure => simp [intOf]; omega
        · clear hap
          go_wp2
          go_round
          case rel => exact ⟨k + 1 + 1, by omega, by go_num⟩
          case measure => simp [intOf]; omega
    · obtain rfl : n = j := by omega
      have hZ := HZF.out
      go_wp2_with fail
      refine (len_ser b sz s W1 HS1.out hs (by omega)).mono ?_
      rintro e w' ⟨rfl, rfl⟩
      by_cases h0 : 0 < n
      · have h1 : 0 < s.z.length := hZ.1 h0
        have h2 : (n : Int) > 0 := by omega
        have h3 : (s.z.length : Int) > 0 := by omega
        clear hZ HZF
        go_wp2
        go_ret
        exact ⟨rfl, b1⟩
      · have h1 : ¬ 0 < s.z.length := fun h => h0 (hZ.2 h)
        have h2 : ¬ (n : Int) > 0 := by omega
        have h3 : ¬ (s.z.length : Int) > 0 := by omega
        clear hZ HZF
        go_wp2
        go_ret
        exact ⟨rfl, b1⟩

end Go.Proofs.Ytpbhdlhbcfkhfaa
namespace Go.Proofs.Ytpbhdlhbcfkhfaa
namespace seriesChunks
open Go.ChangeShapes Go.WideShapes Go.ChangeAt Go.RowKit
set_option linter.unusedVariables false
set_option linter.unusedSimpArgs false

theorem own : ownKnob Try.prog.godebug = none := by kernel_rfl
theorem laidOut : laidOutB Try.prog = true := by kernel_rfl

set_option maxRecDepth 100000 in
set_option maxHeartbeats 8000000 in
theorem walk (size : Int) (a : Option Addr) (len cap : Nat) (zz : List Cl) (w : World) (hsz : (Lit.int .u16 size).wf = true) (hz : OpsC w a len zz) :
    Calls Try.prog 3 #[.int .u16 size, .slice a len cap] w fun e w' => e = .returned (.bool true) ∧ Below w.heap.size w w' := by
  have hsb := bounds_u16 hsz
  have hlen := hz.2.1
  have HZ := Lib.hid hz
  obtain ⟨n, hnn⟩ : ∃ n, 128 + size % 1000 = n := ⟨_, rfl⟩
  have hn1 : 128 ≤ n := by omega
  have hn2 : n ≤ 1127 := by omega
  have HNN := Lib.hid hnn
  clear hz hsz hnn
  go_enter Try.func3, Try.ntmps3
  go_wp2_with fail
  rw [HNN.out]
  refine (snew_at n 0 3 w hn1 (by omega) (by decide)).mono ?_
  rintro e W0 ⟨b, rfl, S0', hb, B0⟩
  have S0 := Lib.hid S0'
  have ST0 := Lib.hid (Std.new (ret := 0) (p := 3) (by decide))
  clear S0'
  go_wp2_with fail
  go_loopw [8] (fun i wr => ∃ (j : Nat) (s : Ser), j ≤ len ∧ j ≤ 150 ∧ i = .int .i64 (j : Int) ∧ SerAt wr b n s ∧ Std s ∧ s.z.length ≤ j ∧ Below w.heap.size w wr) (fun i _ => len - (intOf i).toNat)
  case atStart => exact ⟨0, newSer 0 3, Nat.zero_le _, Nat.zero_le _, rfl, S0.out, ST0.out, Nat.le_refl _, B0⟩
  case round =>
    obtain ⟨j, s, hj, hj2, rfl, hS, hSt, hsl, B1⟩ := hrel
    have HS := Lib.hid hS
    have HST := Lib.hid hSt
    have hbk : b < wr.heap.size := hS.lt
    clear hS hSt
    by_cases hjl : j < len
    · by_cases hjh : j < 150
      · have hjh' : (j : Int) < 150 := by omega
        obtain ⟨q, o, hqe, hq, x0, x1, x2, x3, h64⟩ := HZ.out.at_ j hjl
        subst hqe
        rw [← B1.cell hq] at x0 x1 x2 x3
        generalize opOf zz j = op at *
        obtain ⟨K, TT, VV, PP⟩ := op
        replace x0 : wr.cell? ⟨q, o + j * 4, none⟩ = some (.int .i64 K) := x0
        replace x1 : wr.cell? ⟨q, o + j * 4 + 1, none⟩ = some (.int .i64 TT) := x1
        replace x2 : wr.cell? ⟨q, o + j * 4 + 2, none⟩ = some (.int .i64 VV) := x2
        replace x3 : wr.cell? ⟨q, o + j * 4 + 3, none⟩ = some (.int .i64 PP) := x3
        have h64T : in64 TT := h64.2.1
        have h64V : in64 VV := h64.2.2.1
        have h64P : in64 PP := h64.2.2.2
        have hj0 : (0 : Int) ≤ (j : Int) := by omega
        have hj1 : (j : Int) < (len : Int) := by omega
        clear h64
        have hqb : q ≠ b := by omega
        by_cases hK : K = 1
        · subst hK
          have HSD : Hid (SerAt wr.drew b n s) := HS
          have HX1 := Lib.hid x1
          have HX2 := Lib.hid x2
          go_wp2_with fail
          go_region_held3 (fun w' => w'.cell? ⟨q, o + j * 4 + 1, none⟩ = some (.int .i64 TT) ∧ w'.cell? ⟨q, o + j * 4 + 2, none⟩ = some (.int .i64 VV))
            (first
              | (exact ⟨X14.out, X24.out⟩)
              | (exact ⟨HX1.out, HX2.out⟩)
              | go_keep
              | fail)
            (first
              | (go_at_call 12
                 (with_reducible refine (del_any b n s TT VV _ HSD.out hn1 (by omega) HST.out.rise (by omega)).mono ?_)
                 rintro e W4 ⟨rfl, S4, g4⟩
                 have X14 := Lib.hid (g4.cell (a := ⟨q, o + j * 4 + 1, none⟩) HX1.out (by simp; exact hqb))
                 have X24 := Lib.hid (g4.cell (a := ⟨q, o + j * 4 + 2, none⟩) HX2.out (by simp; exact hqb)))
              | fail)
          have HS4 := Lib.hid S4
          have B4 := bel_gb (B1.drew) B1.size hb g4
          have HST4 := Lib.hid (HST.out.del TT VV)
          have hl4 : (delS s TT VV).z.length ≤ j + 1 := by have := del_len s TT VV; omega
          clear S4 g4 x0 x1 x2 x3 X14 X24
          generalize dropN s.z TT VV = dn at *
          generalize delS s TT VV = s4 at *
          go_wp2_with fail
          refine (whole_any b n s4 W4 HS4.out hn1 (by omega) (by omega)).mono ?_
          rintro e W5 ⟨rfl, b5⟩
          have B5 := B4.trans (b5.mono B4.size)
          have HS5 := Lib.hid (HS4.out.keepB b5)
          clear b5
          go_wp2_with fail
          refine (chunks_ser b n s4 W5 HS5.out hn1 (by omega)).mono ?_
          rintro e W6 ⟨v6, Z, rfl, gZ, lZ, r6, b6⟩
          have hfew := chunks_few hn1 gZ
          rw [lZ] at hfew
          obtain ⟨a6, c6, rfl, _⟩ := r6.shape
          rw [List.length_map]
          have B6 := B5.trans (b6.mono B5.size)
          have HS6 := Lib.hid (HS5.out.keepB b6)
          clear b6 gZ lZ r6
          generalize Z.length = nz at *
          go_wp2_with fail
          refine (len_ser b n s4 W6 HS6.out hn1 (by omega)).mono ?_
          rintro e w' ⟨rfl, rfl⟩
          have hq1 : 68 * (s4.z.length : Int) / n ≤ 68 * (s4.z.length : Int) := Int.ediv_le_self _ (by omega)
          have hq0 : 0 ≤ 68 * (s4.z.length : Int) / n := Int.ediv_nonneg (by omega) (by omega)
          have hnot : ¬ (nz : Int) > 2 * (68 * (s4.z.length : Int) / n) + 1 := by omega
          have hn0 : 0 < n := by omega
          have hne : n ≠ 0 := by omega
          have hneb : (n == 0) = false := by rw [beq_eq_false_iff_ne]; omega
          clear hfew
          go_wp2
          go_roundw
          case rel => exact ⟨j + 1, s4, by omega, by omega, by go_num, HS6.out, HST4.out, hl4, B6⟩
          case measure => simp [intOf]; omega
        · have hKb : (K == 1) = false := by rw [beq_eq_false_iff_ne]; exact hK
          go_wp2_with fail
          refine (add_ser b n s TT VV 0 wr HS.out HST.out hn1 (by omega) (by omega) h64V).mono ?_
          rintro e W4 ⟨rfl, S4, g4⟩
          have HS4 := Lib.hid S4
          have B4 := bel_gb B1 B1.size hb g4
          have HST4 := Lib.hid (HST.out.add TT VV 0 h64V)
          have hl4 : (addS5 s TT VV 0).z.length ≤ j + 1 := by have := add_len HST.out.rise TT VV 0; omega
          clear S4 g4 x0 x1 x2 x3
          generalize addE s TT VV 0 = er at *
          generalize addS5 s TT VV 0 = s4 at *
          go_wp2_with fail
          refine (whole_any b n s4 W4 HS4.out hn1 (by omega) (by omega)).mono ?_
          rintro e W5 ⟨rfl, b5⟩
          have B5 := B4.trans (b5.mono B4.size)
          have HS5 := Lib.hid (HS4.out.keepB b5)
          clear b5
          go_wp2_with fail
          refine (chunks_ser b n s4 W5 HS5.out hn1 (by omega)).mono ?_
          rintro e W6 ⟨v6, Z, rfl, gZ, lZ, r6, b6⟩
          have hfew := chunks_few hn1 gZ
          rw [lZ] at hfew
          obtain ⟨a6, c6, rfl, _⟩ := r6.shape
          rw [List.length_map]
          have B6 := B5.trans (b6.mono B5.size)
          have HS6 := Lib.hid (HS5.out.keepB b6)
          clear b6 gZ lZ r6
          generalize Z.length = nz at *
          go_wp2_with fail
          refine (len_ser b n s4 W6 HS6.out hn1 (by omega)).mono ?_
          rintro e w' ⟨rfl, rfl⟩
          have hq1 : 68 * (s4.z.length : Int) / n ≤ 68 * (s4.z.length : Int) := Int.ediv_le_self _ (by omega)
          have hq0 : 0 ≤ 68 * (s4.z.length : Int) / n := Int.ediv_nonneg (by omega) (by omega)
          have hnot : ¬ (nz : Int) > 2 * (68 * (s4.z.length : Int) / n) + 1 := by omega
          have hn0 : 0 < n := by omega
          have hne : n ≠ 0 := by omega
          have hneb : (n == 0) = false := by rw [beq_eq_false_iff_ne]; omega
          clear hfew
          go_wp2
          go_roundw
          case rel => exact ⟨j + 1, s4, by omega, by omega, by go_num, HS6.out, HST4.out, hl4, B6⟩
          case measure => simp [intOf]; omega
      · have hjh' : ¬ (j : Int) < 150 := by omega
        have hj1 : (j : Int) < (len : Int) := by omega
        go_wp2_with fail
        refine (sknown_any wr).mono ?_
        rintro e W9 ⟨rfl, b9⟩
        have B9 := B1.trans (b9.mono B1.size)
        clear b9
        go_wp2
        go_ret
        exact ⟨rfl, B9⟩
    · have hj1 : ¬ (j : Int) < (len : Int) := by omega
      go_wp2_with fail
      refine (sknown_any wr).mono ?_
      rintro e W9 ⟨rfl, b9⟩
      have B9 := B1.trans (b9.mono B1.size)
      clear b9
      go_wp2
      go_ret
      exact ⟨rfl, B9⟩
set_option maxRecDepth 100000 in
theorem lifted (os : Os) (started : os.Started) (H : Type) (enc : TypeId × Value → H) :
    ReturnsInHanded {} Try.checked os 3 .any (Rows.seriesChunksSpec.pre6 enc Try.prog Try.f3 Rows.seriesChunksRow.domain false) (Rows.seriesChunksSpec.post enc Try.prog Try.f3 false true false false) := by
  refine returnsInHanded_of_change (C := Try.checked) own started (by kernel_rfl) Try.func3
    (ChangeSpec.witness6 (enc := enc) (C := Try.checked) false ⟨#[], #[.int .u16 0, .slice none 0 0], []⟩ 8 (by kernel_rfl) (by kernel_rfl) (by kernel_rfl) (by kernel_rfl)) ?_
  intro W base args ds gs before hval0 hW hcnd _
  have hval : ∀ (j : Nat) t v, Try.f3.params[j]? = some t → args[j]? = some v → Value.okWide Try.prog W .any base t v := hval0
  have hW' := hW
  obtain ⟨p, q, hA0, hV, rfl, hfz, hnd⟩ := hW
  have hA : DataW.TrodAll enc Try.prog W 0 (fun _ => true) true Try.f3.params.toList args.toList ds p := hA0
  rw [Try.params3] at hA hval
  obtain ⟨v0, vs0, d0, ds0, p0, q0, hargs, rfl, rfl, h0, r0⟩ := trodAll_cons hA
  obtain ⟨v1, vs1, d1, ds1, p1, q1, rfl, rfl, rfl, h1, r1⟩ := trodAll_cons r0
  obtain ⟨rfl, rfl, rfl⟩ := trodAll_nil r1
  obtain rfl : args = #[v0, v1] := by cases args; simp_all
  obtain ⟨rfl, rfl⟩ := trodVars_none hV
  obtain ⟨a0, rfl, rfl, rfl, w0⟩ := open_int Try.underlying22 (hval 0 22 v0 rfl rfl) h0
  obtain ⟨a1, len1, cap1, rfl⟩ := okWide_slice Try.underlying23 (hval 1 23 v1 rfl rfl)
  have k1 := h1
  have lt1 : ∀ x ∈ p1, x.block < W.heap.size := by obtain ⟨m, hm⟩ := k1; exact DataW.trod_lt m _ _ _ hm
  obtain ⟨z1, w1⟩ := open_sops h1
  clear hA0 hval0
  refine (walk a0 a1 len1 cap1 z1 W w0 w1).mono fun e W' ⟨he, bel⟩ => ?_
  subst he
  exact ⟨_, rfl, _, _, _, [], _, [], hW', trodAll_mk1 (shut_bool Try.underlying4 _), (trodAll_cons_mk (shut_int Try.underlying22 w0) (trodAll_cons_mk (Below.trod laidOut (by kernel_rfl) (of_decide_eq_true (by kernel_rfl)) k1 bel lt1) trodAll_mk0)), rfl, bel.frame _, fun h => by cases h⟩

theorem over : Rows.seriesChunksRow.holds Try.pinned (OpenSpec.ofChange Rows.seriesChunksSpec) :=
  OpenClaim.holds_of_wide 3 Try.f3 rfl rfl rfl rfl rfl rfl rfl ⟨rfl, rfl, rfl, rfl, rfl⟩ rfl rfl rfl rfl rfl (by kernel_rfl) Try.func3 (by kernel_rfl)
    (of_decide_eq_true (by kernel_rfl)) (by unfold Func.isWrapper; first | (rw [if_pos (by decide +kernel)]; kernel_rfl) | (rw [if_neg (by decide +kernel)]; exact ⟨rfl, rfl⟩))
    (fun os started H enc _ => lifted os started H enc)

theorem proved : Rows.SeriesChunksSaid := over
end seriesChunks
theorem seriesChunks_holds : Rows.SeriesChunksSaid := seriesChunks.proved
#print axioms seriesChunks_holds
end Go.Proofs.Ytpbhdlhbcfkhfaa
