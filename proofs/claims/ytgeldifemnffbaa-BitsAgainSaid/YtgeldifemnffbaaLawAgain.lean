/-
  The statement 'BitsAgain' of layer 1: for every text and every place, bits in two parts, wherever they are cut, are the bits; bytes that are read and written are the bytes.
  No condition.
-/
import Derived.Test.YtgeldifemnffbaaUse
import Derived.ProofKit
import Derived.OpenShut
import Derived.ShutString
import Derived.ChangeOld
namespace Go.Proofs.Ytgeldifemnffbaa
namespace bitsAgain
open Go.ChangeShapes Go.WideShapes Go.ChangeAt Go.RowKit
open Go.ChangeMaps (open_string shut_string)
set_option linter.unusedVariables false

theorem own : ownKnob Try.prog.godebug = none := by kernel_rfl

set_option maxRecDepth 100000 in
set_option maxHeartbeats 1000000 in
theorem walk0 (s : ByteArray) (A : Int) (w : World) (hs : 200 < s.size) (hm : s.size ≤ maxLen) :
    Calls Try.prog 7 #[.string s, .int .u16 A] w fun e w' => e = .returned (.bool true) ∧ Below w.heap.size w w' := by
  unfold maxLen at hm
  have hs' : (200 : Int) < (s.size : Int) := by omega
  go_enter Try.func7, Try.ntmps7
  go_wp2_with fail
  refine (known_any _).mono ?_
  rintro e W1 ⟨rfl, b1⟩
  go_wp2
  go_ret
  exact ⟨rfl, b1⟩

set_option maxRecDepth 100000 in
set_option maxHeartbeats 1000000 in
theorem walk1 (s : ByteArray) (A k : Nat) (w : World) (hs : s.size ≤ 200) (hA : A ≤ 65535) (hk : (A : Int) % (8 * (s.size : Int) + 1) = (k : Int)) (hkn : k ≤ 8 * s.size) :
    Calls Try.prog 7 #[.string s, .int .u16 (A : Int)] w fun e w' => e = .returned (.bool true) ∧ Below w.heap.size w w' := by
  have hs' : (s.size : Int) ≤ 200 := by omega
  have hd : decide (200 < (s.size : Int)) = false := by simp; omega
  go_enter Try.func7, Try.ntmps7
  go_wp2_with fail
  rw [hk]
  clear hk
  refine (read_okI s _ _ (by omega) (by omega) (by omega)).mono ?_
  rintro e W1 ⟨r, rfl, hr1, hr, b1⟩
  have hs1 : w.heap.size ≤ W1.heap.size := b1.size
  have e8 : (8 * (s.size : Int)).toNat = 8 * s.size := by omega
  rw [e8] at hr1
  have hpk : packL (bitsL s.data.toList (8 * s.size)) = s.data.toList := by
    have h := pack_bitsL s.data.toList
    rw [show s.data.toList.length = s.size from (Lib.size_eq s).symm] at h
    exact h
  have HPK := Lib.hid hpk
  have HBL := Lib.hid (bitsL_length s.data.toList (8 * s.size))
  generalize bitsL s.data.toList (8 * s.size) = bs at *
  clear hpk e8
  go_wp2_with fail
  have B2 := bel_gbn b1 hs1 (World.grownBy_alloc W1 (.cells #[.pointer none, .int .u64 0, .int .i64 0] 27) none)
  have hw2 := wr_new W1
  have hr2 := hr1.keep (World.grownBy_alloc W1 (.cells #[.pointer none, .int .u64 0, .int .i64 0] 27) none) (by simp)
  have s2 : w.heap.size ≤ (W1.alloc (.cells #[.pointer none, .int .u64 0, .int .i64 0] 27)).heap.size := by simp; omega
  generalize W1.alloc (.cells #[.pointer none, .int .u64 0, .int .i64 0] 27) = W2 at *
  clear b1 hr1
  generalize W1.heap.size = b at *
  clear W1
  go_loopw [10] (fun i wr => ∃ a : Nat, a ≤ 8 * s.size ∧ i = .int .i64 (a : Int) ∧ RdAt wr r bs a ∧ WrAt wr b (bs.take a) ∧ Below w.heap.size w wr) (fun i _ => 8 * s.size - (intOf i).toNat)
  case atStart => exact ⟨0, Nat.zero_le _, rfl, hr2, by rw [List.take_zero]; exact hw2, B2⟩
  case round =>
    obtain ⟨a, ha, rfl, hr3, hw3, B3⟩ := hrel
    have s3 := Nat.le_trans s2 (show W2.heap.size ≤ W2.heap.size from Nat.le_refl _)
    have sz : w.heap.size ≤ wr.heap.size := B3.size
    by_cases hlt : a < 8 * s.size
    · by_cases h1 : 64 ≤ 8 * s.size - a
      · by_cases h2 : a < k
        · by_cases h3 : 64 ≤ k - a
          · go_wp2_with fail
            refine (get_okE r bs a _ _ hr3 (by omega) (by omega) (by have := HBL.out; omega)).mono ?_
            rintro e W4 ⟨u, m, hm, rfl, HU, hu64, HU2, hr4, g4⟩
            have HM := Lib.hid hm
            have hm64 : m ≤ 64 := by omega
            have hm1 : 1 ≤ m := by omega
            have ham : a + m ≤ 8 * s.size := by omega
            clear hm
            have hne := ne_wr_rd hw3 hr3
            have hw4 := hw3.keep g4 hne hr3.apart
            have B4 := bel_gb B3 sz hr g4
            have s4 := Nat.le_trans sz g4.size
            clear B3 g4 hw3 hr3
            go_wp2_with fail
            rw [HM.out]
            refine (put_ok b _ u m _ hw4 (by have := List.length_take_le a bs; omega) hu64 hm64 HU2.out).mono ?_
            rintro e W5 ⟨rfl, hw5, g5⟩
            have hr5 := hr4.keep g5 (by simp; omega)
            have B5 := bel_gb B4 s4 (by omega) g5
            rw [HU.out, get_part bs a m (by rw [HBL.out]; exact ham)] at hw5
            clear B4 s4 g5 hw4 hr4
            go_wp2
            go_roundw
            case rel => exact ⟨a + m, ham, by go_num, hr5, hw5, B5⟩
            case measure => simp [intOf]; omega
          · go_wp2_with fail
            refine (get_okE r bs a _ _ hr3 (by omega) (by omega) (by have := HBL.out; omega)).mono ?_
            rintro e W4 ⟨u, m, hm, rfl, HU, hu64, HU2, hr4, g4⟩
            have HM := Lib.hid hm
            have hm64 : m ≤ 64 := by omega
            have hm1 : 1 ≤ m := by omega
            have ham : a + m ≤ 8 * s.size := by omega
            clear hm
            have hne := ne_wr_rd hw3 hr3
            have hw4 := hw3.keep g4 hne hr3.apart
            have B4 := bel_gb B3 sz hr g4
            have s4 := Nat.le_trans sz g4.size
            clear B3 g4 hw3 hr3
            go_wp2_with fail
            rw [HM.out]
            refine (put_ok b _ u m _ hw4 (by have := List.length_take_le a bs; omega) hu64 hm64 HU2.out).mono ?_
            rintro e W5 ⟨rfl, hw5, g5⟩
            have hr5 := hr4.keep g5 (by simp; omega)
            have B5 := bel_gb B4 s4 (by omega) g5
            rw [HU.out, get_part bs a m (by rw [HBL.out]; exact ham)] at hw5
            clear B4 s4 g5 hw4 hr4
            go_wp2
            go_roundw
            case rel => exact ⟨a + m, ham, by go_num, hr5, hw5, B5⟩
            case measure => simp [intOf]; omega
        · go_wp2_with fail
          refine (get_okE r bs a _ _ hr3 (by omega) (by omega) (by have := HBL.out; omega)).mono ?_
          rintro e W4 ⟨u, m, hm, rfl, HU, hu64, HU2, hr4, g4⟩
          have HM := Lib.hid hm
          have hm64 : m ≤ 64 := by omega
          have hm1 : 1 ≤ m := by omega
          have ham : a + m ≤ 8 * s.size := by omega
          clear hm
          have hne := ne_wr_rd hw3 hr3
          have hw4 := hw3.keep g4 hne hr3.apart
          have B4 := bel_gb B3 sz hr g4
          have s4 := Nat.le_trans sz g4.size
          clear B3 g4 hw3 hr3
          go_wp2_with fail
          rw [HM.out]
          refine (put_ok b _ u m _ hw4 (by have := List.length_take_le a bs; omega) hu64 hm64 HU2.out).mono ?_
          rintro e W5 ⟨rfl, hw5, g5⟩
          have hr5 := hr4.keep g5 (by simp; omega)
          have B5 := bel_gb B4 s4 (by omega) g5
          rw [HU.out, get_part bs a m (by rw [HBL.out]; exact ham)] at hw5
          clear B4 s4 g5 hw4 hr4
          go_wp2
          go_roundw
          case rel => exact ⟨a + m, ham, by go_num, hr5, hw5, B5⟩
          case measure => simp [intOf]; omega
      · by_cases h2 : a < k
        · by_cases h3 : 8 * s.size - a ≤ k - a
          · go_wp2_with fail
            refine (get_okE r bs a _ _ hr3 (by omega) (by omega) (by have := HBL.out; omega)).mono ?_
            rintro e W4 ⟨u, m, hm, rfl, HU, hu64, HU2, hr4, g4⟩
            have HM := Lib.hid hm
            have hm64 : m ≤ 64 := by omega
            have hm1 : 1 ≤ m := by omega
            have ham : a + m ≤ 8 * s.size := by omega
            clear hm
            have hne := ne_wr_rd hw3 hr3
            have hw4 := hw3.keep g4 hne hr3.apart
            have B4 := bel_gb B3 sz hr g4
            have s4 := Nat.le_trans sz g4.size
            clear B3 g4 hw3 hr3
            go_wp2_with fail
            rw [HM.out]
            refine (put_ok b _ u m _ hw4 (by have := List.length_take_le a bs; omega) hu64 hm64 HU2.out).mono ?_
            rintro e W5 ⟨rfl, hw5, g5⟩
            have hr5 := hr4.keep g5 (by simp; omega)
            have B5 := bel_gb B4 s4 (by omega) g5
            rw [HU.out, get_part bs a m (by rw [HBL.out]; exact ham)] at hw5
            clear B4 s4 g5 hw4 hr4
            go_wp2
            go_roundw
            case rel => exact ⟨a + m, ham, by go_num, hr5, hw5, B5⟩
            case measure => simp [intOf]; omega
          · go_wp2_with fail
            refine (get_okE r bs a _ _ hr3 (by omega) (by omega) (by have := HBL.out; omega)).mono ?_
            rintro e W4 ⟨u, m, hm, rfl, HU, hu64, HU2, hr4, g4⟩
            have HM := Lib.hid hm
            have hm64 : m ≤ 64 := by omega
            have hm1 : 1 ≤ m := by omega
            have ham : a + m ≤ 8 * s.size := by omega
            clear hm
            have hne := ne_wr_rd hw3 hr3
            have hw4 := hw3.keep g4 hne hr3.apart
            have B4 := bel_gb B3 sz hr g4
            have s4 := Nat.le_trans sz g4.size
            clear B3 g4 hw3 hr3
            go_wp2_with fail
            rw [HM.out]
            refine (put_ok b _ u m _ hw4 (by have := List.length_take_le a bs; omega) hu64 hm64 HU2.out).mono ?_
            rintro e W5 ⟨rfl, hw5, g5⟩
            have hr5 := hr4.keep g5 (by simp; omega)
            have B5 := bel_gb B4 s4 (by omega) g5
            rw [HU.out, get_part bs a m (by rw [HBL.out]; exact ham)] at hw5
            clear B4 s4 g5 hw4 hr4
            go_wp2
            go_roundw
            case rel => exact ⟨a + m, ham, by go_num, hr5, hw5, B5⟩
            case measure => simp [intOf]; omega
        · go_wp2_with fail
          refine (get_okE r bs a _ _ hr3 (by omega) (by omega) (by have := HBL.out; omega)).mono ?_
          rintro e W4 ⟨u, m, hm, rfl, HU, hu64, HU2, hr4, g4⟩
          have HM := Lib.hid hm
          have hm64 : m ≤ 64 := by omega
          have hm1 : 1 ≤ m := by omega
          have ham : a + m ≤ 8 * s.size := by omega
          clear hm
          have hne := ne_wr_rd hw3 hr3
          have hw4 := hw3.keep g4 hne hr3.apart
          have B4 := bel_gb B3 sz hr g4
          have s4 := Nat.le_trans sz g4.size
          clear B3 g4 hw3 hr3
          go_wp2_with fail
          rw [HM.out]
          refine (put_ok b _ u m _ hw4 (by have := List.length_take_le a bs; omega) hu64 hm64 HU2.out).mono ?_
          rintro e W5 ⟨rfl, hw5, g5⟩
          have hr5 := hr4.keep g5 (by simp; omega)
          have B5 := bel_gb B4 s4 (by omega) g5
          rw [HU.out, get_part bs a m (by rw [HBL.out]; exact ham)] at hw5
          clear B4 s4 g5 hw4 hr4
          go_wp2
          go_roundw
          case rel => exact ⟨a + m, ham, by go_num, hr5, hw5, B5⟩
          case measure => simp [intOf]; omega
    · obtain rfl : a = 8 * s.size := by omega
      rw [List.take_of_length_le (by rw [HBL.out]; exact Nat.le_refl _)] at hw3
      go_wp2_with fail
      refine (bytes_any b _ _ hw3 (by rw [HBL.out]; omega)).mono ?_
      rintro e W4 ⟨rfl, b4⟩
      have hs4 : (⟨(packL bs).toArray⟩ : ByteArray) = s := by rw [HPK.out]
      rw [hs4]
      clear hs4
      have hw4 := hw3.keep_none (gb_below b4)
      have hr4 := hr3.keep (gb_below (row := none) b4) (by simp)
      have B4 := bel_gbn B3 sz (gb_below b4)
      have s4 := Nat.le_trans sz b4.size
      clear B3 b4 hw3 hr3
      go_wp2_with fail
      refine (len_any b _ _ hw4).mono ?_
      rintro e w' ⟨rfl, rfl⟩
      rw [HBL.out, show ((8 * s.size : Nat) : Int) = 8 * (s.size : Int) from by omega]
      go_wp2_with fail
      refine (left_any r bs _ _ hr4).mono ?_
      rintro e W5 ⟨rfl, d5⟩
      rw [HBL.out, show ((8 * s.size : Nat) : Int) - ((8 * s.size : Nat) : Int) = 0 from by omega]
      have B5 := bel_gbn B4 s4 (d5.gb none)
      have s5 := Nat.le_trans s4 (d5.gb none).size
      clear B4 s4 d5 hr4 hw4
      go_wp2_with fail
      refine (known_any _).mono ?_
      rintro e W6 ⟨rfl, b6⟩
      have B6 := bel_gbn B5 s5 (gb_below b6)
      clear b6 B5 s5
      go_wp2
      go_ret
      exact ⟨rfl, B6⟩

theorem walk (a0 : ByteArray) (a1 : Int) (w : World) (w0 : a0.size ≤ maxLen) (w1 : (Lit.int .u16 a1).wf = true) :
    Calls Try.prog 7 #[.string a0, .int .u16 a1] w fun e w' => e = .returned (.bool true) ∧ Below w.heap.size w w' := by
  by_cases hs : 200 < a0.size
  · exact walk0 a0 a1 w hs w0
  · have b1 := bounds_u16 w1
    obtain ⟨A, rfl⟩ := Int.eq_ofNat_of_zero_le b1.1
    have hk : A % (8 * a0.size + 1) ≤ 8 * a0.size := by have := Nat.mod_lt A (show 0 < 8 * a0.size + 1 by omega); omega
    exact walk1 a0 A (A % (8 * a0.size + 1)) w (by omega) (by omega) (by simp) hk

set_option maxRecDepth 100000 in
theorem lifted (os : Os) (started : os.Started) (H : Type) (enc : TypeId × Value → H) :
    ReturnsInHanded {} Try.checked os 7 .any (Rows.bitsAgainSpec.pre6 enc Try.prog Try.f7 Rows.bitsAgainRow.domain false) (Rows.bitsAgainSpec.post enc Try.prog Try.f7 false true false false) := by
  refine returnsInHanded_of_change (C := Try.checked) own started (by kernel_rfl) Try.func7
    (ChangeSpec.witness6 (enc := enc) (C := Try.checked) false ⟨#[], #[.string ByteArray.empty, .int .u16 0], []⟩ 8 (by kernel_rfl) (by kernel_rfl) (by kernel_rfl) (by kernel_rfl)) ?_
  intro W base args ds gs before hval0 hW hcnd _
  have hval : ∀ (j : Nat) t v, Try.f7.params[j]? = some t → args[j]? = some v → Value.okWide Try.prog W .any base t v := hval0
  have hW' := hW
  obtain ⟨p, q, hA0, hV, rfl, hfz, hnd⟩ := hW
  have hA : DataW.TrodAll enc Try.prog W 0 (fun _ => true) true Try.f7.params.toList args.toList ds p := hA0
  rw [Try.params7] at hA hval
  obtain ⟨v0, vs0, d0, ds0, p0, q0, hargs, rfl, rfl, h0, r0⟩ := trodAll_cons hA
  obtain ⟨v1, vs1, d1, ds1, p1, q1, rfl, rfl, rfl, h1, r1⟩ := trodAll_cons r0
  obtain ⟨rfl, rfl, rfl⟩ := trodAll_nil r1
  obtain rfl : args = #[v0, v1] := by cases args; simp_all
  obtain ⟨rfl, rfl⟩ := trodVars_none hV
  obtain ⟨a0, rfl, rfl, rfl, w0⟩ := open_string Try.underlying9 (hval 0 9 v0 rfl rfl) h0
  obtain ⟨a1, rfl, rfl, rfl, w1⟩ := open_int Try.underlying52 (hval 1 52 v1 rfl rfl) h1
  clear hA0 hval0
  refine (walk a0 a1 W w0 w1).mono fun e W' ⟨he, bel⟩ => ?_
  subst he
  exact ⟨_, rfl, _, _, _, [], _, [], hW', trodAll_mk1 (shut_bool Try.underlying4 _), (trodAll_cons_mk (shut_string Try.underlying9 w0) (trodAll_cons_mk (shut_int Try.underlying52 w1) trodAll_mk0)), rfl, bel.frame _, fun h => by cases h⟩

theorem over : Rows.bitsAgainRow.holds Try.pinned (OpenSpec.ofChange Rows.bitsAgainSpec) :=
  OpenClaim.holds_of_wide 7 Try.f7 rfl rfl rfl rfl rfl rfl rfl ⟨rfl, rfl, rfl, rfl, rfl⟩ rfl rfl rfl rfl rfl (by kernel_rfl) Try.func7 (by kernel_rfl)
    (of_decide_eq_true (by kernel_rfl)) (by unfold Func.isWrapper; first | (rw [if_pos (by decide +kernel)]; kernel_rfl) | (rw [if_neg (by decide +kernel)]; exact ⟨rfl, rfl⟩))
    (fun os started H enc _ => lifted os started H enc)

theorem proved : Rows.BitsAgainSaid := over
end bitsAgain
theorem bitsAgain_holds : Rows.BitsAgainSaid := bitsAgain.proved
#print axioms bitsAgain_holds
end Go.Proofs.Ytgeldifemnffbaa
