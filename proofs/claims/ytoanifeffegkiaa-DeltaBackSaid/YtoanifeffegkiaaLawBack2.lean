/-
  The statement 'DeltaBack' of layer 2 (the stage's theorem): for every samples and every bytes, samples are decoded as they were, and bits that are decoded are the samples' bits.
  No condition.
-/
import Derived.Test.YtoanifeffegkiaaDKnown
import Derived.Test.YtoanifeffegkiaaAlike
import Derived.ShutString
import Derived.ChangeOld
namespace Go.Proofs.Ytoanifeffegkiaa
namespace deltaBack
open Go.ChangeShapes Go.WideShapes Go.ChangeAt Go.RowKit
open Go.ChangeMaps (open_string shut_string)
set_option linter.unusedVariables false
set_option linter.unusedSimpArgs false

theorem own : ownKnob Try.prog.godebug = none := by kernel_rfl
theorem laidOut : laidOutB Try.prog = true := by kernel_rfl

set_option maxRecDepth 100000 in
set_option maxHeartbeats 4000000 in
theorem walk (a : Option Addr) (len cap : Nat) (z : List (Int × Int)) (s : ByteArray) (c : Int) (w : World) (hz : SampAt w a len cap z) (hs : s.size ≤ maxLen) (hc : (Lit.int .u8 c).wf = true) :
    Calls Try.prog 5 #[.slice a len cap, .string s, .int .u8 c] w fun e w' => e = .returned (.bool true) ∧ Below w.heap.size w w' := by
  have hlen := hz.2.2.1
  have hcb := bounds_u8 hc
  unfold maxLen at hs
  clear hc
  by_cases h60 : 60 < len
  · go_enter Try.func5, Try.ntmps5
    go_wp2_with fail
    refine (known_any _).mono ?_
    rintro e W4 ⟨rfl, b4⟩
    go_wp2
    go_ret
    exact ⟨rfl, b4⟩
  · by_cases h200 : 200 < s.size
    · go_enter Try.func5, Try.ntmps5
      go_wp2_with fail
      refine (known_any _).mono ?_
      rintro e W4 ⟨rfl, b4⟩
      go_wp2
      go_ret
      exact ⟨rfl, b4⟩
    · have HZL := Lib.hid hz.1
      have HALL := Lib.hid hz.2.2.2.1
      have HEL := encTo_le z len
      go_enter Try.func5, Try.ntmps5
      go_wp2_with fail
      refine (dencode_any a len cap z _ hz (by omega)).mono ?_
      rintro e W1 ⟨rfl, b1⟩
      have hz1 := hz.keep b1
      have s1 := b1.size
      have HDE := Lib.hid (show decAll len (encTo z len) = .ok z from by
        have := decAll_enc z HALL.out
        rwa [HZL.out] at this)
      clear hz
      generalize encTo z len = E at *
      go_wp2_with fail
      refine (decode_enc E _ _ _ (by omega) rfl (by omega) (by omega)).mono ?_
      rintro e W2 ⟨b2, hd⟩
      rw [Int.toNat_natCast, HDE.out] at hd
      obtain ⟨am, cm, rfl, hm2, _⟩ := hd
      have hz2 := hz1.keep b2
      have B2 := bel_gbn b1 s1 (gb_below b2)
      have s2 := Nat.le_trans s1 b2.size
      clear hz1 b1 s1 b2 HDE HEL
      go_wp2_with fail
      obtain ⟨N, hN⟩ : ∃ N : Nat, 8 * s.size = N := ⟨_, rfl⟩
      have hNI : 8 * (s.size : Int) = (N : Int) := by omega
      rw [hNI]
      go_loopw [11] (fun t wr => ∃ k : Nat, k ≤ N ∧ t = .int .i64 (k : Int) ∧ SampAt wr a len cap z ∧ SampAt wr am len cm z ∧ Below w.heap.size w wr ∧ w.heap.size ≤ wr.heap.size) (fun t _ => (intOf t).toNat)
      case atStart => exact ⟨N, Nat.le_refl _, rfl, hz2, hm2, B2, s2⟩
      case round =>
        obtain ⟨k, hk, rfl, hz3, hm3, B3, s3⟩ := hrel
        clear hz2 hm2 B2 s2
        by_cases hk0 : 0 < k
        · have hk1 : (0 : Int) < (k : Int) := by omega
          have HN := Lib.hid hN
          have HNI := Lib.hid hNI
          have hrd := read_okI s (k : Int)
          rw [Int.toNat_natCast] at hrd
          have hbl := bitsL_length s.data.toList k
          have hdec := decode_any s (k : Int) c wr (by omega) hcb.1 (by omega) (by omega) (by omega)
          rw [Int.toNat_natCast] at hdec
          obtain ⟨cn, rfl⟩ := Int.eq_ofNat_of_zero_le hcb.1
          rw [Int.toNat_natCast] at hdec
          have hkI : (k : Int) ≤ 8 * (s.size : Int) := by omega
          have HRD := Lib.hid hrd
          have HBL := Lib.hid hbl
          clear hN hNI hrd hbl
          generalize bitsL s.data.toList k = bs at *
          go_wp2_with fail
          refine hdec.mono ?_
          clear hdec
          rintro e W4 ⟨b4, hd4⟩
          have s4 := b4.size
          match hda : decAll cn bs with
          | .error er =>
            rw [hda] at hd4
            obtain ⟨her, rfl⟩ := hd4
            have hne : (er == 0) = false := beq_eq_false_iff_ne.2 her
            have hz4 := hz3.keep b4
            have hm4 := hm3.keep b4
            have B4 := bel_gbn B3 s3 (gb_below b4)
            have s5 := Nat.le_trans s3 s4
            clear hda her hz3 hm3 B3 s3 b4 s4
            go_wp2
            go_roundw
            case rel => exact ⟨k - 1 - k / 8, by omega, by go_num, hz4, hm4, B4, s5⟩
            case measure => simp [intOf]; omega
          | .ok out =>
            rw [hda] at hd4
            obtain ⟨ax, cx, rfl, hx4, _⟩ := hd4
            obtain ⟨hol, hoa, hoe⟩ := enc_decAll cn bs out hda
            have HOE := Lib.hid hoe
            clear hda hoe hol hoa
            go_wp2_with fail
            refine (dencode_any ax cn cx out _ hx4 (by omega)).mono ?_
            rintro e W5 ⟨rfl, b5⟩
            rw [← HOE.out]
            have b45 := bel_gbn b4 s4 (gb_below b5)
            have s5 := Nat.le_trans s4 b5.size
            rw [HBL.out]
            clear hx4 b4 s4 b5
            go_wp2_with fail
            refine (HRD.out _ (by omega) (by omega) hkI).mono ?_
            rintro e W6 ⟨r1, rfl, hr6, hr1, b6⟩
            have b56 := bel_gbn b45 s5 (gb_below b6)
            have s6 := Nat.le_trans s5 b6.size
            have hr1' := Nat.le_trans s5 hr1
            have hr1l := hr6.lt
            clear b45 s5 b6 hr1
            go_wp2_with fail
            refine (read_enc bs _ _ (by rw [HBL.out]; omega) (by rw [HBL.out])).mono ?_
            rintro e W7 ⟨r2, rfl, hr7, hr2, b7⟩
            have b67 := bel_gbn b56 s6 (gb_below b7)
            have s7 := Nat.le_trans s6 b7.size
            have hr6' := hr6.keep (gb_below (row := none) b7) (by simp)
            have hr2' := Nat.le_trans s6 hr2
            have hkk : ((k : Int) != (k : Int)) = false := by simp
            clear b56 s6 b7 hr6
            go_wp2_with fail
            refine (alike_any r1 r2 wr.heap.size bs _ hr6' hr7 (by omega) hr1' hr2' s7).mono ?_
            rintro e W8 ⟨rfl, b8⟩
            have b78 : Below wr.heap.size wr W8 := b67.trans b8
            have hz8 := hz3.keep b78
            have hm8 := hm3.keep b78
            have B8 := bel_gbn B3 s3 (gb_below b78)
            have s8 := Nat.le_trans s3 b78.size
            clear hz3 hm3 B3 s3 b67 b8 b78 hr6' hr7 s7
            go_wp2
            go_roundw
            case rel => exact ⟨k - 1 - k / 8, by omega, by go_num, hz8, hm8, B8, s8⟩
            case measure => simp [intOf]; omega
        · obtain rfl : k = 0 := by omega
          go_wp2_with fail
          refine (same_any a am len len cap cm z z _ hz3 hm3).mono ?_
          rintro e W4 ⟨rfl, d4⟩
          rw [show decide (z = z) = true from by simp]
          have B4 := bel_gbn B3 s3 (d4.gb none)
          have s4 := Nat.le_trans s3 (d4.gb none).size
          clear hz3 hm3 B3 s3 d4
          go_wp2_with fail
          refine (known_any _).mono ?_
          rintro e W5 ⟨rfl, b5⟩
          have B5 := bel_gbn B4 s4 (gb_below b5)
          clear b5 B4
          go_wp2
          go_ret
          exact ⟨rfl, B5⟩

set_option maxRecDepth 100000 in
theorem lifted (os : Os) (started : os.Started) (H : Type) (enc : TypeId × Value → H) :
    ReturnsInHanded {} Try.checked os 5 .any (Rows.deltaBackSpec.pre6 enc Try.prog Try.f5 Rows.deltaBackRow.domain false) (Rows.deltaBackSpec.post enc Try.prog Try.f5 false true false false) := by
  refine returnsInHanded_of_change (C := Try.checked) own started (by kernel_rfl) Try.func5
    (ChangeSpec.witness6 (enc := enc) (C := Try.checked) false ⟨#[], #[.slice none 0 0, .string ByteArray.empty, .int .u8 0], []⟩ 8 (by kernel_rfl) (by kernel_rfl) (by kernel_rfl) (by kernel_rfl)) ?_
  intro W base args ds gs before hval0 hW hcnd _
  have hval : ∀ (j : Nat) t v, Try.f5.params[j]? = some t → args[j]? = some v → Value.okWide Try.prog W .any base t v := hval0
  have hW' := hW
  obtain ⟨p, q, hA0, hV, rfl, hfz, hnd⟩ := hW
  have hA : DataW.TrodAll enc Try.prog W 0 (fun _ => true) true Try.f5.params.toList args.toList ds p := hA0
  rw [Try.params5] at hA hval
  obtain ⟨v0, vs0, d0, ds0, p0, q0, hargs, rfl, rfl, h0, r0⟩ := trodAll_cons hA
  obtain ⟨v1, vs1, d1, ds1, p1, q1, rfl, rfl, rfl, h1, r1⟩ := trodAll_cons r0
  obtain ⟨v2, vs2, d2, ds2, p2, q2, rfl, rfl, rfl, h2, r2⟩ := trodAll_cons r1
  obtain ⟨rfl, rfl, rfl⟩ := trodAll_nil r2
  obtain rfl : args = #[v0, v1, v2] := by cases args; simp_all
  obtain ⟨rfl, rfl⟩ := trodVars_none hV
  obtain ⟨a0, len0, cap0, rfl⟩ := okWide_slice Try.underlying23 (hval 0 23 v0 rfl rfl)
  have k0 := h0
  have lt0 : ∀ x ∈ p0, x.block < W.heap.size := by obtain ⟨m, hm⟩ := k0; exact DataW.trod_lt m _ _ _ hm
  obtain ⟨z0, w0⟩ := open_samps h0
  obtain ⟨a1, rfl, rfl, rfl, w1⟩ := open_string Try.underlying9 (hval 1 9 v1 rfl rfl) h1
  obtain ⟨a2, rfl, rfl, rfl, w2⟩ := open_int Try.underlying5 (hval 2 5 v2 rfl rfl) h2
  clear hA0 hval0
  refine (walk a0 len0 cap0 z0 a1 a2 W w0 w1 w2).mono fun e W' ⟨he, bel⟩ => ?_
  subst he
  exact ⟨_, rfl, _, _, _, [], _, [], hW', trodAll_mk1 (shut_bool Try.underlying4 _), (trodAll_cons_mk (Below.trod laidOut (by kernel_rfl) (of_decide_eq_true (by kernel_rfl)) k0 bel lt0) (trodAll_cons_mk (shut_string Try.underlying9 w1) (trodAll_cons_mk (shut_int Try.underlying5 w2) trodAll_mk0))), rfl, bel.frame _, fun h => by cases h⟩

theorem over : Rows.deltaBackRow.holds Try.pinned (OpenSpec.ofChange Rows.deltaBackSpec) :=
  OpenClaim.holds_of_wide 5 Try.f5 rfl rfl rfl rfl rfl rfl rfl ⟨rfl, rfl, rfl, rfl, rfl⟩ rfl rfl rfl rfl rfl (by kernel_rfl) Try.func5 (by kernel_rfl)
    (of_decide_eq_true (by kernel_rfl)) (by unfold Func.isWrapper; first | (rw [if_pos (by decide +kernel)]; kernel_rfl) | (rw [if_neg (by decide +kernel)]; exact ⟨rfl, rfl⟩))
    (fun os started H enc _ => lifted os started H enc)

theorem proved : Rows.DeltaBackSaid := over
end deltaBack
theorem deltaBack_holds : Rows.DeltaBackSaid := deltaBack.proved
#print axioms deltaBack_holds
end Go.Proofs.Ytoanifeffegkiaa
