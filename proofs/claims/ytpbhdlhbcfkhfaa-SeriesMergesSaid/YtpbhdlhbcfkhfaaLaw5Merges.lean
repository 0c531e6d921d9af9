/-
  The statement 'SeriesMerges' of layer 5: for every calls, every sample and every policy, what a second sample of a time leaves there is what its policy makes of both; the other samples stay.
  No condition.
-/
import Derived.Test.YtpbhdlhbcfkhfaaSKnown
import Derived.Test.YtpbhdlhbcfkhfaaSOps
import Derived.Test.YtpbhdlhbcfkhfaaPMerge
import Derived.Test.YtpbhdlhbcfkhfaaSFact
import Derived.ShutString
import Derived.ChangeOld
import Derived.Lib.SmallJoins
namespace Go.Proofs.Ytpbhdlhbcfkhfaa
namespace seriesMerges
open Go.ChangeShapes Go.WideShapes Go.ChangeAt Go.RowKit
set_option linter.unusedVariables false
set_option linter.unusedSimpArgs false

/-- A series that has no retention. -/
def Free (s : Ser) : Prop := s.ret = 0 ∧ s.line = 0
theorem trim_free {s : Ser} (h : Free s) (hz : ∀ u ∈ s.z, 0 ≤ u.1) (hr : Rising s.z) : trimS s = s := by
  have hl : lineS s = 0 := by unfold lineS; rw [h.1, if_neg (by omega)]; exact h.2
  unfold trimS
  rw [hl, drop_all hr (fun u hu => .inr (by have := hz u hu; omega))]
  cases s; simp [Free] at h; simp [h.2]
theorem add_free {s : Ser} (h : Free s) (hS : Std s) (T V p : Int) : addS5 s T V p = if addE s T V p = 0 then ⟨s.ret, s.pol, max s.mx T, s.line, insL s.z T (newV s.z T V (polS s p)).1⟩ else s := by
  unfold addS5
  split
  · rename_i he
    have hT : 0 ≤ T := by
      unfold addE at he
      split at he
      · omega
      · rename_i hb; unfold badS at hb; omega
    refine trim_free ⟨h.1, h.2⟩ ?_ (insL_rising hS.rise _ _)
    intro u hu
    rcases (insL_mem hS.rise _ _ u).1 hu with ⟨hx, _⟩ | rfl
    · exact hS.pos u hx
    · exact hT
  · rfl
theorem free_add {s : Ser} (h : Free s) (hS : Std s) (T V p : Int) : Free (addS5 s T V p) := by
  rw [add_free h hS]; split
  · exact ⟨h.1, h.2⟩
  · exact h
theorem addE_free {s : Ser} (h : Free s) (T V p : Int) (hT0 : 0 ≤ T) (hT1 : T < 1099511627776) (hp : 1 ≤ p ∧ p ≤ 6) : addE s T V p = (newV s.z T V p).2 ∧ polS s p = p := by
  have hq : polS s p = p := by unfold polS; rw [if_neg (by omega)]
  refine ⟨?_, hq⟩
  have hb : ¬ badS s T p := by unfold badS; rw [hq]; omega
  unfold addE
  rw [if_neg hb, if_neg (by rw [h.2]; omega), hq]

theorem own : ownKnob Try.prog.godebug = none := by kernel_rfl
theorem laidOut : laidOutB Try.prog = true := by kernel_rfl

set_option maxRecDepth 100000 in
theorem open_sample {H : Type} {enc : TypeId × Value → H} {W : World} {r : Reach} {b0 : Nat} {v : Value} {d : DataW H} {p : List MemPlace}
    (hv : Value.okWide Try.prog W r b0 29 v) (h : DataW.Trod enc Try.prog W 0 (fun _ => true) true 29 v d p) :
    ∃ z : Int × Int, v = .agg #[.int .i64 z.1, .int .i64 z.2] ∧ in64 z.1 ∧ in64 z.2 := by
  obtain ⟨v0, v1, y0, y1, n, rfl, _, _, h0, h1⟩ := Go.Joins.open_agg2 Try.underlying29 (by kernel_rfl) (by kernel_rfl) hv h
  obtain ⟨n0, e0, _, w0⟩ := DataW.trod_int Try.underlying3 h0
  obtain ⟨n1, e1, _, w1⟩ := DataW.trod_int Try.underlying3 h1
  simp at e0 e1
  subst e0 e1
  exact ⟨(n0, n1), rfl, bounds_i64 w0, bounds_i64 w1⟩

set_option maxRecDepth 100000 in
set_option maxHeartbeats 8000000 in
theorem walk (a : Option Addr) (len cap : Nat) (zz : List Cl) (u : Int × Int) (p : Int) (w : World) (hz : OpsC w a len zz) (hu : in64 u.1 ∧ in64 u.2) (hp : (Lit.int .u8 p).wf = true) :
    Calls Try.prog 9 #[.slice a len cap, .agg #[.int .i64 u.1, .int .i64 u.2], .int .u8 p] w fun e w' => e = .returned (.bool true) ∧ Below w.heap.size w w' := by
  obtain ⟨T, V⟩ := u
  simp only at hu ⊢
  have hpb := bounds_u8 hp
  have hlen := hz.2.1
  have HZ := Lib.hid hz
  have hVV : in64 V := hu.2
  have hn0 := heap_new w (.cells #[.int .i64 T, .int .i64 V] 29)
  have B00 := (Below.refl w.heap.size w).alloc (Nat.le_refl _) (.cells #[.int .i64 T, .int .i64 V] 29)
  have s00 : w.heap.size < (w.alloc (.cells #[.int .i64 T, .int .i64 V] 29)).heap.size := by simp
  clear hz hp hu
  go_enter Try.func9, Try.ntmps9
  go_wp2_with fail
  generalize w.alloc (.cells #[.int .i64 T, .int .i64 V] 29) = V0 at *
  refine (snew_at 128 0 1 V0 (by omega) (by omega) (by decide)).mono ?_
  rintro e W0 ⟨b, rfl, S0', hb0, b0⟩
  have S0 := Lib.hid S0'
  have ST0 := Lib.hid (Std.new (ret := 0) (p := 1) (by decide))
  have B0 := B00.trans (b0.mono B00.size)
  have hb : w.heap.size < b := Nat.lt_of_lt_of_le s00 hb0
  have HX0 := Lib.hid ((b0.block w.heap.size s00).trans hn0)
  have n0 := Nat.lt_of_lt_of_le s00 b0.size
  clear S0' b0 hn0 B00 s00 hb0
  generalize hkx : w.heap.size = kx at HX0 n0 hb ⊢
  have HKX := Lib.hid hkx
  rw [hkx] at B0
  clear hkx
  have t0 : W0.cell? ⟨kx, 0, none⟩ = some (.int .i64 T) := by rw [cell_of HX0.out]; rfl
  have hTT : T < 0 ∨ (0 ≤ T ∧ 1099511627776 ≤ T) ∨ (0 ≤ T ∧ T < 1099511627776) := by omega
  rcases hTT with hT | ⟨hT, hT2⟩ | ⟨hT, hT2⟩
  · go_wp2_with fail
    refine (sknown_any W0).mono ?_
    rintro e W7 ⟨rfl, b7⟩
    have B7 := B0.trans (b7.mono (Nat.le_of_lt n0))
    clear b7
    go_wp2
    go_ret
    exact ⟨rfl, by rw [HKX.out]; exact B7⟩
  · have hT3 : T ≥ 1099511627776 := hT2
    go_wp2_with fail
    refine (sknown_any W0).mono ?_
    rintro e W7 ⟨rfl, b7⟩
    have B7 := B0.trans (b7.mono (Nat.le_of_lt n0))
    clear b7
    go_wp2
    go_ret
    exact ⟨rfl, by rw [HKX.out]; exact B7⟩
  · have hT1 : ¬ T < 0 := by omega
    have hT3 : ¬ T ≥ 1099511627776 := by omega
    go_wp2_with fail
    clear t0
    go_loopw [9] (fun i wr => ∃ (j : Nat) (s : Ser), j ≤ len ∧ j ≤ 50 ∧ i = .int .i64 (j : Int) ∧ SerAt wr b 128 s ∧ Std s ∧ Free s ∧ s.z.length ≤ j ∧ Below kx w wr ∧ Hid (wr.heap[kx]? = some (.cells #[.int .i64 T, .int .i64 V] 29 (0, 0)))) (fun i _ => len - (intOf i).toNat)
    case atStart => exact ⟨0, newSer 0 1, Nat.zero_le _, Nat.zero_le _, rfl, S0.out, ST0.out, ⟨rfl, rfl⟩, Nat.le_refl _, B0, HX0⟩
    case round =>
      obtain ⟨j, s, hj, hj2, rfl, hS, hSt, hFr, hsl, B1, HX⟩ := hrel
      have HS := Lib.hid hS
      have HST := Lib.hid hSt
      have HFR := Lib.hid hFr
      have n1 := heap_lt HX.out
      clear hS hSt hFr
      by_cases hjl : j < len
      · by_cases hjh : j < 50
        · have hjh' : (j : Int) < 50 := by omega
          rw [← HKX.out] at B1
          obtain ⟨q, o, hqe, hq, x0, x1, x2, x3, h64⟩ := HZ.out.at_ j hjl
          subst hqe
          rw [← B1.cell hq] at x0 x1 x2 x3
          generalize opOf zz j = op at *
          obtain ⟨K, TT, VV, PP⟩ := op
          replace x0 : wr.cell? ⟨q, o + j * 4, none⟩ = some (.int .i64 K) := x0
          replace x1 : wr.cell? ⟨q, o + j * 4 + 1, none⟩ = some (.int .i64 TT) := x1
          replace x2 : wr.cell? ⟨q, o + j * 4 + 2, none⟩ = some (.int .i64 VV) := x2
          replace x3 : wr.cell? ⟨q, o + j * 4 + 3, none⟩ = some (.int .i64 PP) := x3
          have h64T : in64 TT := h64.2.1
          have h64V : in64 VV := h64.2.2.1
          have h64P : in64 PP := h64.2.2.2
          have hj0 : (0 : Int) ≤ (j : Int) := by omega
          have hj1 : (j : Int) < (len : Int) := by omega
          clear h64
          rw [HKX.out] at B1
          by_cases hK : K = 0
          · subst hK
            go_wp2_with fail
            refine (add_ser b 128 s TT VV 3 wr HS.out HST.out (by omega) (by omega) (by omega) h64V).mono ?_
            rintro e W2 ⟨rfl, S2, g2⟩
            have HS2 := Lib.hid S2
            have B2 := bel_gb B1 (Nat.le_of_lt n1) (Nat.le_of_lt hb) g2
            have HST2 := Lib.hid (HST.out.add TT VV 3 h64V)
            have HFR2 := Lib.hid (free_add HFR.out HST.out TT VV 3)
            have hl2 : (addS5 s TT VV 3).z.length ≤ j + 1 := by have := add_len HST.out.rise TT VV 3; omega
            have HX2 := Lib.hid ((g2.block kx n1 (by simp; omega)).trans HX.out)
            clear S2 g2 x0 x1 x2 x3
            generalize addE s TT VV 3 = er at *
            generalize addS5 s TT VV 3 = s2 at *
            go_wp2
            go_roundw
            case rel => exact ⟨j + 1, s2, by omega, by omega, by go_num, HS2.out, HST2.out, HFR2.out, hl2, B2, HX2⟩
            case measure => simp [intOf]; omega
          · have hKb : (K == 0) = false := by rw [beq_eq_false_iff_ne]; exact hK
            go_wp2
            go_roundw
            case rel => exact ⟨j + 1, s, by omega, by omega, by go_num, HS.out, HST.out, HFR.out, by omega, B1, HX⟩
            case measure => simp [intOf]; omega
        · have hjh' : ¬ (j : Int) < 50 := by omega
          have hj1 : (j : Int) < (len : Int) := by omega
          have hsl' : s.z.length ≤ 50 := by omega
          have HR := Lib.hid HST.out.rise
          clear hsl
          have t0 : wr.cell? ⟨kx, 0, none⟩ = some (.int .i64 T) := by rw [cell_of HX.out]; rfl
          have t1 : wr.cell? ⟨kx, 1, none⟩ = some (.int .i64 V) := by rw [cell_of HX.out]; rfl
          obtain ⟨kk, hkk⟩ : ∃ kk, 1 + p % 6 = kk := ⟨_, rfl⟩
          have hk6 : 1 ≤ kk ∧ kk ≤ 6 := by omega
          have hAE := addE_free HFR.out T V kk hT hT2 hk6
          have hAS := add_free HFR.out HST.out T V kk
          rw [hAE.2] at hAS
          rw [hAE.1] at hAS
          have HAE := Lib.hid hAE.1
          have HAS := Lib.hid hAS
          have HKK := Lib.hid hkk
          have HGL := Lib.hid (show getL s.z T = if bef s.z T < upt s.z T then (vOf s.z (bef s.z T), 0) else (0, 5) from rfl)
          have HNV := Lib.hid (show newV s.z T V kk = if bef s.z T < upt s.z T then mergeS kk (vOf s.z (bef s.z T)) V else (V, 0) from rfl)
          have HLN := Lib.hid (fun vv => insL_length s.z T vv HR.out)
          have HGI := Lib.hid (fun vv => getL_ins HR.out T vv)
          have hbu := upt_le_bef HR.out T
          have hul := upt_le s.z T
          clear hkk hAE hAS
          by_cases hat : bef s.z T < upt s.z T
          · rw [if_pos hat] at HGL HNV
            obtain ⟨old, hold⟩ : ∃ old, vOf s.z (bef s.z T) = old := ⟨_, rfl⟩
            have h64o : in64 old := by
              rw [← hold]
              have hm : bef s.z T < s.z.length := by omega
              exact (HST.out.all _ (at_mem hm)).2
            rw [hold] at HGL HNV
            obtain ⟨want, er, hW⟩ : ∃ want er, mergeS kk old V = (want, er) := ⟨_, _, rfl⟩
            have HW := Lib.hid hW
            rw [hW] at HNV
            rw [HNV.out] at HAE HAS
            have HLL := Lib.hid (show ∀ vv, (insL s.z T vv).length = s.z.length from fun vv => by rw [HLN.out]; omega)
            clear hold hW
            go_wp2_with fail
            rw [HKK.out]
            refine (get_ser b 128 s T old 0 wr HGL.out HS.out (by omega) HR.out (by omega)).mono ?_
            rintro e W3 ⟨rfl, b3⟩
            have HS3 := Lib.hid (HS.out.keepB b3)
            have B3 := B1.trans (b3.mono (Nat.le_of_lt n1))
            have HX3 := Lib.hid ((b3.block kx n1).trans HX.out)
            have n3 := Nat.lt_of_lt_of_le n1 b3.size
            clear b3 t0 t1
            go_wp2_with fail
            refine (len_ser b 128 s W3 HS3.out (by omega) (by omega)).mono ?_
            rintro e w' ⟨rfl, rfl⟩
            have t0 : W3.cell? ⟨kx, 0, none⟩ = some (.int .i64 T) := by rw [cell_of HX3.out]; rfl
            have t1 : W3.cell? ⟨kx, 1, none⟩ = some (.int .i64 V) := by rw [cell_of HX3.out]; rfl
            go_wp2_with fail
            refine (add_at5 b 128 s _ T V kk er W3 HAE.out HAS.out HS3.out HST.out (by omega) (by omega) (by omega) hVV).mono ?_
            rintro e W4 ⟨rfl, S4, g4⟩
            have HS4 := Lib.hid S4
            have B4 := bel_gb B3 (Nat.le_of_lt n3) (Nat.le_of_lt hb) g4
            have HX4 := Lib.hid ((g4.block kx n3 (by simp; omega)).trans HX3.out)
            have n4 := Nat.lt_of_lt_of_le n3 g4.size
            have t4 : W4.cell? ⟨kx, 0, none⟩ = some (.int .i64 T) := by rw [cell_of HX4.out]; rfl
            clear S4 g4 t0 t1
            by_cases her : er = 0
            · subst her
              rw [if_pos rfl] at HS4
              have HR4 := Lib.hid (insL_rising HR.out T want)
              have hl4 := HLL.out want
              go_wp2_with fail
              refine (get_ser b 128 ⟨s.ret, s.pol, max s.mx T, s.line, insL s.z T want⟩ T want 0 W4 (HGI.out want) HS4.out (by omega) HR4.out (by show (insL s.z T want).length ≤ _; omega)).mono ?_
              rintro e W5 ⟨rfl, b5⟩
              have HS5 := Lib.hid (HS4.out.keepB b5)
              have B5 := B4.trans (b5.mono (Nat.le_of_lt n4))
              have HX5 := Lib.hid ((b5.block kx n4).trans HX4.out)
              have n5 := Nat.lt_of_lt_of_le n4 b5.size
              have t5 : W5.cell? ⟨kx, 1, none⟩ = some (.int .i64 V) := by rw [cell_of HX5.out]; rfl
              have HMG := Lib.hid (merge_any kk old V W5 h64o hVV)
              rw [HW.out] at HMG
              unfold two at HMG
              clear b5 t4
              go_wp2_with fail
              refine HMG.out.mono ?_
              rintro e w' ⟨rfl, rfl⟩
              go_wp2_with fail
              refine (len_ser b 128 ⟨s.ret, s.pol, max s.mx T, s.line, insL s.z T want⟩ W5 HS5.out (by omega) (by show (insL s.z T want).length ≤ _; omega)).mono ?_
              rintro e w' ⟨rfl, rfl⟩
              simp only [hl4]
              go_wp2_with fail
              refine (sknown_any W5).mono ?_
              rintro e W9 ⟨rfl, b9⟩
              have B9 := B5.trans (b9.mono (by have := B5.size; have := n5; omega))
              clear b9
              go_wp2
              go_ret
              exact ⟨rfl, by rw [HKX.out]; exact B9⟩
            · have heb : (er != 0) = true := by simpa using her
              have heb2 : (er == 0) = false := by simpa using her
              rw [if_neg her] at HS4
              clear her
              go_wp2_with fail
              refine (get_ser b 128 s T old 0 W4 HGL.out HS4.out (by omega) HR.out (by omega)).mono ?_
              rintro e W5 ⟨rfl, b5⟩
              have HS5 := Lib.hid (HS4.out.keepB b5)
              have B5 := B4.trans (b5.mono (Nat.le_of_lt n4))
              have HX5 := Lib.hid ((b5.block kx n4).trans HX4.out)
              have n5 := Nat.lt_of_lt_of_le n4 b5.size
              have t5 : W5.cell? ⟨kx, 1, none⟩ = some (.int .i64 V) := by rw [cell_of HX5.out]; rfl
              have HMG := Lib.hid (merge_any kk old V W5 h64o hVV)
              rw [HW.out] at HMG
              unfold two at HMG
              clear b5 t4
              go_wp2_with fail
              refine HMG.out.mono ?_
              rintro e w' ⟨rfl, rfl⟩
              go_wp2_with fail
              refine (len_ser b 128 s W5 HS5.out (by omega) (by omega)).mono ?_
              rintro e w' ⟨rfl, rfl⟩
              go_wp2_with fail
              refine (sknown_any W5).mono ?_
              rintro e W9 ⟨rfl, b9⟩
              have B9 := B5.trans (b9.mono (by have := B5.size; have := n5; omega))
              clear b9
              go_wp2
              go_ret
              exact ⟨rfl, by rw [HKX.out]; exact B9⟩
          · rw [if_neg hat] at HGL HNV
            rw [HNV.out] at HAE HAS
            rw [if_pos rfl] at HAS
            have hl4 : (insL s.z T V).length = s.z.length + 1 := by rw [HLN.out]; omega
            go_wp2_with fail
            rw [HKK.out]
            refine (get_ser b 128 s T 0 5 wr HGL.out HS.out (by omega) HR.out (by omega)).mono ?_
            rintro e W3 ⟨rfl, b3⟩
            have HS3 := Lib.hid (HS.out.keepB b3)
            have B3 := B1.trans (b3.mono (Nat.le_of_lt n1))
            have HX3 := Lib.hid ((b3.block kx n1).trans HX.out)
            have n3 := Nat.lt_of_lt_of_le n1 b3.size
            clear b3 t0 t1
            go_wp2_with fail
            refine (len_ser b 128 s W3 HS3.out (by omega) (by omega)).mono ?_
            rintro e w' ⟨rfl, rfl⟩
            have t0 : W3.cell? ⟨kx, 0, none⟩ = some (.int .i64 T) := by rw [cell_of HX3.out]; rfl
            have t1 : W3.cell? ⟨kx, 1, none⟩ = some (.int .i64 V) := by rw [cell_of HX3.out]; rfl
            go_wp2_with fail
            refine (add_at5 b 128 s _ T V kk 0 W3 HAE.out HAS.out HS3.out HST.out (by omega) (by omega) (by omega) hVV).mono ?_
            rintro e W4 ⟨rfl, S4, g4⟩
            have HS4 := Lib.hid S4
            have B4 := bel_gb B3 (Nat.le_of_lt n3) (Nat.le_of_lt hb) g4
            have HX4 := Lib.hid ((g4.block kx n3 (by simp; omega)).trans HX3.out)
            have n4 := Nat.lt_of_lt_of_le n3 g4.size
            have t4 : W4.cell? ⟨kx, 0, none⟩ = some (.int .i64 T) := by rw [cell_of HX4.out]; rfl
            have HR4 := Lib.hid (insL_rising HR.out T V)
            clear S4 g4 t0 t1
            go_wp2_with fail
            refine (get_ser b 128 ⟨s.ret, s.pol, max s.mx T, s.line, insL s.z T V⟩ T V 0 W4 (HGI.out V) HS4.out (by omega) HR4.out (by show (insL s.z T V).length ≤ _; omega)).mono ?_
            rintro e W5 ⟨rfl, b5⟩
            have HS5 := Lib.hid (HS4.out.keepB b5)
            have B5 := B4.trans (b5.mono (Nat.le_of_lt n4))
            have HX5 := Lib.hid ((b5.block kx n4).trans HX4.out)
            have n5 := Nat.lt_of_lt_of_le n4 b5.size
            have t5 : W5.cell? ⟨kx, 1, none⟩ = some (.int .i64 V) := by rw [cell_of HX5.out]; rfl
            clear b5 t4
            go_wp2_with fail
            refine (len_ser b 128 ⟨s.ret, s.pol, max s.mx T, s.line, insL s.z T V⟩ W5 HS5.out (by omega) (by show (insL s.z T V).length ≤ _; omega)).mono ?_
            rintro e w' ⟨rfl, rfl⟩
            simp only [hl4]
            go_wp2_with fail
            refine (sknown_any W5).mono ?_
            rintro e W9 ⟨rfl, b9⟩
            have B9 := B5.trans (b9.mono (by have := B5.size; have := n5; omega))
            clear b9
            go_wp2
            go_ret
            exact ⟨rfl, by rw [HKX.out]; exact B9⟩
      · have hj1 : ¬ (j : Int) < (len : Int) := by omega
        have hsl' : s.z.length ≤ 50 := by omega
        have HR := Lib.hid HST.out.rise
        clear hsl
        have t0 : wr.cell? ⟨kx, 0, none⟩ = some (.int .i64 T) := by rw [cell_of HX.out]; rfl
        have t1 : wr.cell? ⟨kx, 1, none⟩ = some (.int .i64 V) := by rw [cell_of HX.out]; rfl
        obtain ⟨kk, hkk⟩ : ∃ kk, 1 + p % 6 = kk := ⟨_, rfl⟩
        have hk6 : 1 ≤ kk ∧ kk ≤ 6 := by omega
        have hAE := addE_free HFR.out T V kk hT hT2 hk6
        have hAS := add_free HFR.out HST.out T V kk
        rw [hAE.2] at hAS
        rw [hAE.1] at hAS
        have HAE := Lib.hid hAE.1
        have HAS := Lib.hid hAS
        have HKK := Lib.hid hkk
        have HGL := Lib.hid (show getL s.z T = if bef s.z T < upt s.z T then (vOf s.z (bef s.z T), 0) else (0, 5) from rfl)
        have HNV := Lib.hid (show newV s.z T V kk = if bef s.z T < upt s.z T then mergeS kk (vOf s.z (bef s.z T)) V else (V, 0) from rfl)
        have HLN := Lib.hid (fun vv => insL_length s.z T vv HR.out)
        have HGI := Lib.hid (fun vv => getL_ins HR.out T vv)
        have hbu := upt_le_bef HR.out T
        have hul := upt_le s.z T
        clear hkk hAE hAS
        by_cases hat : bef s.z T < upt s.z T
        · rw [if_pos hat] at HGL HNV
          obtain ⟨old, hold⟩ : ∃ old, vOf s.z (bef s.z T) = old := ⟨_, rfl⟩
          have h64o : in64 old := by
            rw [← hold]
            have hm : bef s.z T < s.z.length := by omega
            exact (HST.out.all _ (at_mem hm)).2
          rw [hold] at HGL HNV
          obtain ⟨want, er, hW⟩ : ∃ want er, mergeS kk old V = (want, er) := ⟨_, _, rfl⟩
          have HW := Lib.hid hW
          rw [hW] at HNV
          rw [HNV.out] at HAE HAS
          have HLL := Lib.hid (show ∀ vv, (insL s.z T vv).length = s.z.length from fun vv => by rw [HLN.out]; omega)
          clear hold hW
          go_wp2_with fail
          rw [HKK.out]
          refine (get_ser b 128 s T old 0 wr HGL.out HS.out (by omega) HR.out (by omega)).mono ?_
          rintro e W3 ⟨rfl, b3⟩
          have HS3 := Lib.hid (HS.out.keepB b3)
          have B3 := B1.trans (b3.mono (Nat.le_of_lt n1))
          have HX3 := Lib.hid ((b3.block kx n1).trans HX.out)
          have n3 := Nat.lt_of_lt_of_le n1 b3.size
          clear b3 t0 t1
          go_wp2_with fail
          refine (len_ser b 128 s W3 HS3.out (by omega) (by omega)).mono ?_
          rintro e w' ⟨rfl, rfl⟩
          have t0 : W3.cell? ⟨kx, 0, none⟩ = some (.int .i64 T) := by rw [cell_of HX3.out]; rfl
          have t1 : W3.cell? ⟨kx, 1, none⟩ = some (.int .i64 V) := by rw [cell_of HX3.out]; rfl
          go_wp2_with fail
          refine (add_at5 b 128 s _ T V kk er W3 HAE.out HAS.out HS3.out HST.out (by omega) (by omega) (by omega) hVV).mono ?_
          rintro e W4 ⟨rfl, S4, g4⟩
          have HS4 := Lib.hid S4
          have B4 := bel_gb B3 (Nat.le_of_lt n3) (Nat.le_of_lt hb) g4
          have HX4 := Lib.hid ((g4.block kx n3 (by simp; omega)).trans HX3.out)
          have n4 := Nat.lt_of_lt_of_le n3 g4.size
          have t4 : W4.cell? ⟨kx, 0, none⟩ = some (.int .i64 T) := by rw [cell_of HX4.out]; rfl
          clear S4 g4 t0 t1
          by_cases her : er = 0
          · subst her
            rw [if_pos rfl] at HS4
            have HR4 := Lib.hid (insL_rising HR.out T want)
            have hl4 := HLL.out want
            go_wp2_with fail
            refine (get_ser b 128 ⟨s.ret, s.pol, max s.mx T, s.line, insL s.z T want⟩ T want 0 W4 (HGI.out want) HS4.out (by omega) HR4.out (by show (insL s.z T want).length ≤ _; omega)).mono ?_
            rintro e W5 ⟨rfl, b5⟩
            have HS5 := Lib.hid (HS4.out.keepB b5)
            have B5 := B4.trans (b5.mono (Nat.le_of_lt n4))
            have HX5 := Lib.hid ((b5.block kx n4).trans HX4.out)
            have n5 := Nat.lt_of_lt_of_le n4 b5.size
            have t5 : W5.cell? ⟨kx, 1, none⟩ = some (.int .i64 V) := by rw [cell_of HX5.out]; rfl
            have HMG := Lib.hid (merge_any kk old V W5 h64o hVV)
            rw [HW.out] at HMG
            unfold two at HMG
            clear b5 t4
            go_wp2_with fail
            refine HMG.out.mono ?_
            rintro e w' ⟨rfl, rfl⟩
            go_wp2_with fail
            refine (len_ser b 128 ⟨s.ret, s.pol, max s.mx T, s.line, insL s.z T want⟩ W5 HS5.out (by omega) (by show (insL s.z T want).length ≤ _; omega)).mono ?_
            rintro e w' ⟨rfl, rfl⟩
            simp only [hl4]
            go_wp2_with fail
            refine (sknown_any W5).mono ?_
            rintro e W9 ⟨rfl, b9⟩
            have B9 := B5.trans (b9.mono (by have := B5.size; have := n5; omega))
            clear b9
            go_wp2
            go_ret
            exact ⟨rfl, by rw [HKX.out]; exact B9⟩
          · have heb : (er != 0) = true := by simpa using her
            have heb2 : (er == 0) = false := by simpa using her
            rw [if_neg her] at HS4
            clear her
            go_wp2_with fail
            refine (get_ser b 128 s T old 0 W4 HGL.out HS4.out (by omega) HR.out (by omega)).mono ?_
            rintro e W5 ⟨rfl, b5⟩
            have HS5 := Lib.hid (HS4.out.keepB b5)
            have B5 := B4.trans (b5.mono (Nat.le_of_lt n4))
            have HX5 := Lib.hid ((b5.block kx n4).trans HX4.out)
            have n5 := Nat.lt_of_lt_of_le n4 b5.size
            have t5 : W5.cell? ⟨kx, 1, none⟩ = some (.int .i64 V) := by rw [cell_of HX5.out]; rfl
            have HMG := Lib.hid (merge_any kk old V W5 h64o hVV)
            rw [HW.out] at HMG
            unfold two at HMG
            clear b5 t4
            go_wp2_with fail
            refine HMG.out.mono ?_
            rintro e w' ⟨rfl, rfl⟩
            go_wp2_with fail
            refine (len_ser b 128 s W5 HS5.out (by omega) (by omega)).mono ?_
            rintro e w' ⟨rfl, rfl⟩
            go_wp2_with fail
            refine (sknown_any W5).mono ?_
            rintro e W9 ⟨rfl, b9⟩
            have B9 := B5.trans (b9.mono (by have := B5.size; have := n5; omega))
            clear b9
            go_wp2
            go_ret
            exact ⟨rfl, by rw [HKX.out]; exact B9⟩
        · rw [if_neg hat] at HGL HNV
          rw [HNV.out] at HAE HAS
          rw [if_pos rfl] at HAS
          have hl4 : (insL s.z T V).length = s.z.length + 1 := by rw [HLN.out]; omega
          go_wp2_with fail
          rw [HKK.out]
          refine (get_ser b 128 s T 0 5 wr HGL.out HS.out (by omega) HR.out (by omega)).mono ?_
          rintro e W3 ⟨rfl, b3⟩
          have HS3 := Lib.hid (HS.out.keepB b3)
          have B3 := B1.trans (b3.mono (Nat.le_of_lt n1))
          have HX3 := Lib.hid ((b3.block kx n1).trans HX.out)
          have n3 := Nat.lt_of_lt_of_le n1 b3.size
          clear b3 t0 t1
          go_wp2_with fail
          refine (len_ser b 128 s W3 HS3.out (by omega) (by omega)).mono ?_
          rintro e w' ⟨rfl, rfl⟩
          have t0 : W3.cell? ⟨kx, 0, none⟩ = some (.int .i64 T) := by rw [cell_of HX3.out]; rfl
          have t1 : W3.cell? ⟨kx, 1, none⟩ = some (.int .i64 V) := by rw [cell_of HX3.out]; rfl
          go_wp2_with fail
          refine (add_at5 b 128 s _ T V kk 0 W3 HAE.out HAS.out HS3.out HST.out (by omega) (by omega) (by omega) hVV).mono ?_
          rintro e W4 ⟨rfl, S4, g4⟩
          have HS4 := Lib.hid S4
          have B4 := bel_gb B3 (Nat.le_of_lt n3) (Nat.le_of_lt hb) g4
          have HX4 := Lib.hid ((g4.block kx n3 (by simp; omega)).trans HX3.out)
          have n4 := Nat.lt_of_lt_of_le n3 g4.size
          have t4 : W4.cell? ⟨kx, 0, none⟩ = some (.int .i64 T) := by rw [cell_of HX4.out]; rfl
          have HR4 := Lib.hid (insL_rising HR.out T V)
          clear S4 g4 t0 t1
          go_wp2_with fail
          refine (get_ser b 128 ⟨s.ret, s.pol, max s.mx T, s.line, insL s.z T V⟩ T V 0 W4 (HGI.out V) HS4.out (by omega) HR4.out (by show (insL s.z T V).length ≤ _; omega)).mono ?_
          rintro e W5 ⟨rfl, b5⟩
          have HS5 := Lib.hid (HS4.out.keepB b5)
          have B5 := B4.trans (b5.mono (Nat.le_of_lt n4))
          have HX5 := Lib.hid ((b5.block kx n4).trans HX4.out)
          have n5 := Nat.lt_of_lt_of_le n4 b5.size
          have t5 : W5.cell? ⟨kx, 1, none⟩ = some (.int .i64 V) := by rw [cell_of HX5.out]; rfl
          clear b5 t4
          go_wp2_with fail
          refine (len_ser b 128 ⟨s.ret, s.pol, max s.mx T, s.line, insL s.z T V⟩ W5 HS5.out (by omega) (by show (insL s.z T V).length ≤ _; omega)).mono ?_
          rintro e w' ⟨rfl, rfl⟩
          simp only [hl4]
          go_wp2_with fail
          refine (sknown_any W5).mono ?_
          rintro e W9 ⟨rfl, b9⟩
          have B9 := B5.trans (b9.mono (by have := B5.size; have := n5; omega))
          clear b9
          go_wp2
          go_ret
          exact ⟨rfl, by rw [HKX.out]; exact B9⟩
set_option maxRecDepth 100000 in
theorem lifted (os : Os) (started : os.Started) (H : Type) (enc : TypeId × Value → H) :
    ReturnsInHanded {} Try.checked os 9 .any (Rows.seriesMergesSpec.pre6 enc Try.prog Try.f9 Rows.seriesMergesRow.domain false) (Rows.seriesMergesSpec.post enc Try.prog Try.f9 false true false false) := by
  refine returnsInHanded_of_change (C := Try.checked) own started (by kernel_rfl) Try.func9
    (ChangeSpec.witness6 (enc := enc) (C := Try.checked) false ⟨#[], #[.slice none 0 0, .agg #[.int .i64 0, .int .i64 0], .int .u8 0], []⟩ 8 (by kernel_rfl) (by kernel_rfl) (by kernel_rfl) (by kernel_rfl)) ?_
  intro W base args ds gs before hval0 hW hcnd _
  have hval : ∀ (j : Nat) t v, Try.f9.params[j]? = some t → args[j]? = some v → Value.okWide Try.prog W .any base t v := hval0
  have hW' := hW
  obtain ⟨p, q, hA0, hV, rfl, hfz, hnd⟩ := hW
  have hA : DataW.TrodAll enc Try.prog W 0 (fun _ => true) true Try.f9.params.toList args.toList ds p := hA0
  rw [Try.params9] at hA hval
  obtain ⟨v0, vs0, d0, ds0, p0, q0, hargs, rfl, rfl, h0, r0⟩ := trodAll_cons hA
  obtain ⟨v1, vs1, d1, ds1, p1, q1, rfl, rfl, rfl, h1, r1⟩ := trodAll_cons r0
  obtain ⟨v2, vs2, d2, ds2, p2, q2, rfl, rfl, rfl, h2, r2⟩ := trodAll_cons r1
  obtain ⟨rfl, rfl, rfl⟩ := trodAll_nil r2
  obtain rfl : args = #[v0, v1, v2] := by cases args; simp_all
  obtain ⟨rfl, rfl⟩ := trodVars_none hV
  obtain ⟨a0, len0, cap0, rfl⟩ := okWide_slice Try.underlying23 (hval 0 23 v0 rfl rfl)
  have k0 := h0
  have lt0 : ∀ x ∈ p0, x.block < W.heap.size := by obtain ⟨m, hm⟩ := k0; exact DataW.trod_lt m _ _ _ hm
  obtain ⟨z0, w0⟩ := open_sops h0
  have k1 := h1
  have lt1 : ∀ x ∈ p1, x.block < W.heap.size := by obtain ⟨m, hm⟩ := k1; exact DataW.trod_lt m _ _ _ hm
  obtain ⟨a1, rfl, w1⟩ := open_sample (hval 1 29 v1 rfl rfl) h1
  obtain ⟨a2, rfl, rfl, rfl, w2⟩ := open_int Try.underlying5 (hval 2 5 v2 rfl rfl) h2
  clear hA0 hval0
  refine (walk a0 len0 cap0 z0 a1 a2 W w0 w1 w2).mono fun e W' ⟨he, bel⟩ => ?_
  subst he
  exact ⟨_, rfl, _, _, _, [], _, [], hW', trodAll_mk1 (shut_bool Try.underlying4 _), (trodAll_cons_mk (Below.trod laidOut (by kernel_rfl) (of_decide_eq_true (by kernel_rfl)) k0 bel lt0) (trodAll_cons_mk (Below.trod laidOut (by kernel_rfl) (of_decide_eq_true (by kernel_rfl)) k1 bel lt1) (trodAll_cons_mk (shut_int Try.underlying5 w2) trodAll_mk0))), rfl, bel.frame _, fun h => by cases h⟩

theorem over : Rows.seriesMergesRow.holds Try.pinned (OpenSpec.ofChange Rows.seriesMergesSpec) :=
  OpenClaim.holds_of_wide 9 Try.f9 rfl rfl rfl rfl rfl rfl rfl ⟨rfl, rfl, rfl, rfl, rfl⟩ rfl rfl rfl rfl rfl (by kernel_rfl) Try.func9 (by kernel_rfl)
    (of_decide_eq_true (by kernel_rfl)) (by unfold Func.isWrapper; first | (rw [if_pos (by decide +kernel)]; kernel_rfl) | (rw [if_neg (by decide +kernel)]; exact ⟨rfl, rfl⟩))
    (fun os started H enc _ => lifted os started H enc)

theorem proved : Rows.SeriesMergesSaid := over
end seriesMerges
theorem seriesMerges_holds : Rows.SeriesMergesSaid := seriesMerges.proved
#print axioms seriesMerges_holds
end Go.Proofs.Ytpbhdlhbcfkhfaa
