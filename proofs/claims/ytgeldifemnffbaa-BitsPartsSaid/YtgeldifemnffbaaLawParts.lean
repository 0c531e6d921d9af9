/-
  The statement 'BitsParts' of layer 1: for every number, and every two counts of bits, a number's bits in two parts are the number's, and a number that has no room in some bits has none in fewer.
  No condition.
-/
import Derived.Test.YtgeldifemnffbaaKnown
import Derived.ProofKit
import Derived.OpenShut
import Derived.ShutString
import Derived.ChangeOld
namespace Go.Proofs.Ytgeldifemnffbaa
namespace bitsParts
open Go.ChangeShapes Go.WideShapes Go.ChangeAt Go.RowKit
open Go.ChangeMaps (open_string shut_string)
set_option linter.unusedVariables false

theorem own : ownKnob Try.prog.godebug = none := by kernel_rfl

theorem two_parts (xs : List Bool) (n k : Nat) (hl : xs.length = n) (hk : k ≤ n) :
    (bitsOf (num (xs.take k)) k) ++ bitsOf (num ((xs.drop k).take (n - k))) (n - k) = xs := by
  have h1 : (xs.take k).length = k := by simp; omega
  have h2 : ((xs.drop k).take (n - k)).length = n - k := by simp; omega
  have e1 := bitsOf_num (xs.take k)
  have e2 := bitsOf_num ((xs.drop k).take (n - k))
  rw [h1] at e1
  rw [h2] at e2
  rw [e1, e2, List.take_of_length_le (i := n - k) (by simp; omega), List.take_append_drop]

set_option maxRecDepth 100000 in
set_option maxHeartbeats 1000000 in
theorem walk1 (U M C n k : Nat) (w : World) (hU : U < 18446744073709551616) (hM : M ≤ 255) (hC : C ≤ 255) (hn : (M : Int) % 65 = (n : Int)) (hn64 : n ≤ 64) (hk : (C : Int) % ((n : Int) + 1) = (k : Int)) (hkn : k ≤ n) (hf : U < 2 ^ n) :
    Calls Try.prog 10 #[.int .u64 (U : Int), .int .u8 (M : Int), .int .u8 (C : Int)] w fun e w' => e = .returned (.bool true) ∧ Below w.heap.size w w' := by
  have HF := Lib.hid hf
  clear hf
  go_enter Try.func10, Try.ntmps10
  go_wp2_with fail
  rw [hn, hk]
  clear hn hk
  have B1 := (Below.refl w.heap.size w).alloc (Nat.le_refl _) (.cells #[.pointer none, .int .u64 0, .int .i64 0] 27)
  have hw1 := wr_new w
  have s1 : w.heap.size ≤ (w.alloc (.cells #[.pointer none, .int .u64 0, .int .i64 0] 27)).heap.size := by simp
  generalize w.alloc (.cells #[.pointer none, .int .u64 0, .int .i64 0] 27) = W1 at *
  refine (put_ok w.heap.size [] U n _ hw1 (by simp; omega) hU hn64 HF.out).mono ?_
  rintro e W2 ⟨rfl, hw2, g2⟩
  have B2 := bel_gb B1 s1 (Nat.le_refl _) g2
  have s2 := Nat.le_trans s1 g2.size
  clear B1 s1 g2 hw1 W1
  rw [List.nil_append] at hw2
  have hxl : (bitsOf U n).length = n := bitsOf_length U n
  generalize bitsOf U n = xs at *
  have HXL := Lib.hid hxl
  clear hxl
  go_wp2_with fail
  have B3 := bel_gbn B2 s2 (World.grownBy_alloc W2 (.cells #[.pointer none, .int .u64 0, .int .i64 0] 27) none)
  have hx3 := wr_new W2
  have hw3 := hw2.keep_none (World.grownBy_alloc W2 (.cells #[.pointer none, .int .u64 0, .int .i64 0] 27) none)
  have hne : w.heap.size ≠ W2.heap.size := by have := hw2.lt; omega
  have s3 : w.heap.size ≤ (W2.alloc (.cells #[.pointer none, .int .u64 0, .int .i64 0] 27)).heap.size := by simp; omega
  generalize W2.alloc (.cells #[.pointer none, .int .u64 0, .int .i64 0] 27) = W3 at *
  clear B2 hw2
  generalize W2.heap.size = bx at *
  clear W2
  refine (bytes_any w.heap.size _ _ hw3 (by have := HXL.out; omega)).mono ?_
  rintro e W4 ⟨rfl, b4⟩
  have hw4 := hw3.keep_none (gb_below b4)
  have hx4 := hx3.keep_none (gb_below b4)
  have B4 := bel_gbn B3 s3 (gb_below b4)
  have s4 := Nat.le_trans s3 b4.size
  clear B3 s3 b4 hw3 hx3 W3
  have hps : ByteArray.size ⟨(packL xs).toArray⟩ = (n + 7) / 8 := by
    have := HXL.out
    show (packL xs).toArray.size = _
    rw [List.size_toArray, packL_length, this]
  have HPS := Lib.hid hps
  clear hps
  go_wp2_with fail
  refine (read_ok _ n _ (by rw [HPS.out]; omega) (by rw [HPS.out]; omega)).mono ?_
  rintro e W5 ⟨r, rfl, hr5, hr, b5⟩
  have hw5 := hw4.keep_none (gb_below b5)
  have hx5 := hx4.keep_none (gb_below b5)
  have B5 := bel_gbn B4 s4 (gb_below b5)
  have s5 := Nat.le_trans s4 b5.size
  have hr' := Nat.le_trans s4 hr
  clear B4 s4 b5 hw4 hx4 hr W4
  replace hr5 : RdAt W5 r xs 0 := by
    have e : bitsL ((⟨(packL xs).toArray⟩ : ByteArray)).data.toList n = xs := by
      have := bitsL_pack xs
      rw [HXL.out] at this
      exact this
    rw [e] at hr5; exact hr5
  have hn1 := ne_wr_rd hw5 hr5
  have hn2 := ne_wr_rd hx5 hr5
  go_wp2_with fail
  refine (get_ok r xs 0 k _ hr5 (by omega) (by rw [HXL.out]; omega)).mono ?_
  rintro e W6 ⟨rfl, hr6, g6⟩
  have hw6 := hw5.keep g6 hn1 hr5.apart
  have hx6 := hx5.keep g6 hn2 hr5.apart
  have B6 := bel_gb B5 s5 hr' g6
  have s6 := Nat.le_trans s5 g6.size
  clear B5 s5 g6 hw5 hx5 hr5 W5
  rw [Nat.zero_add] at hr6
  rw [List.drop_zero]
  have HT := Lib.hid (two_parts xs n k HXL.out hkn)
  have ha : num (xs.take k) < 2 ^ k := by
    have h := num_lt (xs.take k)
    rwa [show (xs.take k).length = k from by have := HXL.out; simp; omega] at h
  have HA := Lib.hid ha
  have ha' : num (xs.take k) < 18446744073709551616 := Nat.lt_of_lt_of_le ha (Nat.pow_le_pow_right (by omega) (show k ≤ 64 by omega))
  clear ha
  generalize num (xs.take k) = a at *
  go_wp2_with fail
  rw [show ((n : Int) - (k : Int)) = ((n - k : Nat) : Int) from by omega]
  refine (get_ok r xs k (n - k) _ hr6 (by omega) (by rw [HXL.out]; omega)).mono ?_
  rintro e W7 ⟨rfl, hr7, g7⟩
  have hw7 := hw6.keep g7 hn1 hr6.apart
  have hx7 := hx6.keep g7 hn2 hr6.apart
  have B7 := bel_gb B6 s6 hr' g7
  have s7 := Nat.le_trans s6 g7.size
  clear B6 s6 g7 hw6 hx6 hr6 W6
  have hb : num ((xs.drop k).take (n - k)) < 2 ^ (n - k) := by
    have h := num_lt ((xs.drop k).take (n - k))
    rwa [show ((xs.drop k).take (n - k)).length = n - k from by have := HXL.out; simp; omega] at h
  have HB := Lib.hid hb
  have hb' : num ((xs.drop k).take (n - k)) < 18446744073709551616 := Nat.lt_of_lt_of_le hb (Nat.pow_le_pow_right (by omega) (show n - k ≤ 64 by omega))
  clear hb
  generalize num ((xs.drop k).take (n - k)) = b at *
  go_wp2_with fail
  refine (put_ok bx [] a k _ hx7 (by simp; omega) ha' (by omega) HA.out).mono ?_
  rintro e W8 ⟨rfl, hx8, g8⟩
  have hw8 := hw7.keep g8 hne hx7.apart
  have B8 := bel_gb B7 s7 s2 g8
  have s8 := Nat.le_trans s7 g8.size
  clear B7 s7 g8 hw7 hx7 hr7 W7
  rw [List.nil_append] at hx8
  go_wp2_with fail
  rw [show ((n : Int) - (k : Int)) = ((n - k : Nat) : Int) from by omega]
  refine (put_ok bx _ b (n - k) _ hx8 (by rw [bitsOf_length]; omega) hb' (by omega) HB.out).mono ?_
  rintro e W9 ⟨rfl, hx9, g9⟩
  have hw9 := hw8.keep g9 hne hx8.apart
  have B9 := bel_gb B8 s8 s2 g9
  have s9 := Nat.le_trans s8 g9.size
  clear B8 s8 g9 hw8 hx8 W8
  rw [HT.out] at hx9
  go_wp2_with fail
  refine (bytes_any bx _ _ hx9 (by have := HXL.out; omega)).mono ?_
  rintro e W10 ⟨rfl, b10⟩
  have hw10 := hw9.keep_none (gb_below b10)
  have hx10 := hx9.keep_none (gb_below b10)
  have B10 := bel_gbn B9 s9 (gb_below b10)
  have s10 := Nat.le_trans s9 b10.size
  clear B9 s9 b10 hw9 hx9 W9
  go_wp2_with fail
  refine (bytes_any w.heap.size _ _ hw10 (by have := HXL.out; omega)).mono ?_
  rintro e W11 ⟨rfl, b11⟩
  have hx11 := hx10.keep_none (gb_below b11)
  have B11 := bel_gbn B10 s10 (gb_below b11)
  have s11 := Nat.le_trans s10 b11.size
  clear B10 s10 b11 hw10 hx10 W10
  go_wp2_with fail
  refine (len_any bx _ _ hx11).mono ?_
  rintro e w' ⟨rfl, rfl⟩
  rw [HXL.out]
  go_wp2_with fail
  refine (known_any _).mono ?_
  rintro e W12 ⟨rfl, b12⟩
  have B12 := bel_gbn B11 s11 (gb_below b12)
  clear b12 B11 s11 hx11
  go_wp2
  go_ret
  exact ⟨rfl, B12⟩

set_option maxRecDepth 100000 in
set_option maxHeartbeats 1000000 in
theorem walk2 (U M C n k : Nat) (w : World) (hU : U < 18446744073709551616) (hM : M ≤ 255) (hC : C ≤ 255) (hn : (M : Int) % 65 = (n : Int)) (hn64 : n ≤ 64) (hk : (C : Int) % ((n : Int) + 1) = (k : Int)) (hkn : k ≤ n) (hf : fits U (n : Int) = false) (hf' : fits U (k : Int) = false) :
    Calls Try.prog 10 #[.int .u64 (U : Int), .int .u8 (M : Int), .int .u8 (C : Int)] w fun e w' => e = .returned (.bool true) ∧ Below w.heap.size w w' := by
  have HF := Lib.hid hf
  have HF' := Lib.hid hf'
  clear hf hf'
  go_enter Try.func10, Try.ntmps10
  go_wp2_with fail
  rw [hn, hk]
  clear hn hk
  have B1 := (Below.refl w.heap.size w).alloc (Nat.le_refl _) (.cells #[.pointer none, .int .u64 0, .int .i64 0] 27)
  have s1 : w.heap.size ≤ (w.alloc (.cells #[.pointer none, .int .u64 0, .int .i64 0] 27)).heap.size := by simp
  generalize w.alloc (.cells #[.pointer none, .int .u64 0, .int .i64 0] 27) = W1 at *
  refine (put_bad _ U _ _ hU HF.out).mono ?_
  rintro e w' ⟨rfl, rfl⟩
  go_wp2_with fail
  have B3 := bel_gbn B1 s1 (World.grownBy_alloc W1 (.cells #[.pointer none, .int .u64 0, .int .i64 0] 27) none)
  have s3 : w.heap.size ≤ (W1.alloc (.cells #[.pointer none, .int .u64 0, .int .i64 0] 27)).heap.size := by simp; omega
  generalize W1.alloc (.cells #[.pointer none, .int .u64 0, .int .i64 0] 27) = W3 at *
  refine (put_bad _ U _ _ hU HF'.out).mono ?_
  rintro e w' ⟨rfl, rfl⟩
  go_wp2_with fail
  refine (known_any _).mono ?_
  rintro e W4 ⟨rfl, b4⟩
  have B4 := bel_gbn B3 s3 (gb_below b4)
  clear b4 B3 s3 B1 s1
  go_wp2
  go_ret
  exact ⟨rfl, B4⟩

theorem walk (a0 a1 a2 : Int) (w : World) (w0 : (Lit.int .u64 a0).wf = true) (w1 : (Lit.int .u8 a1).wf = true) (w2 : (Lit.int .u8 a2).wf = true) :
    Calls Try.prog 10 #[.int .u64 a0, .int .u8 a1, .int .u8 a2] w fun e w' => e = .returned (.bool true) ∧ Below w.heap.size w w' := by
  have b0 := bounds_u64 w0
  have b1 := bounds_u8 w1
  have b2 := bounds_u8 w2
  obtain ⟨U, rfl⟩ := Int.eq_ofNat_of_zero_le b0.1
  obtain ⟨M, rfl⟩ := Int.eq_ofNat_of_zero_le b1.1
  obtain ⟨C, rfl⟩ := Int.eq_ofNat_of_zero_le b2.1
  have hk : C % (M % 65 + 1) ≤ M % 65 := by have := Nat.mod_lt C (show 0 < M % 65 + 1 by omega); omega
  by_cases hf : U < 2 ^ (M % 65)
  · exact walk1 U M C (M % 65) (C % (M % 65 + 1)) w (by omega) (by omega) (by omega) (by omega) (by omega) (by simp) hk hf
  · have hp : 2 ^ (C % (M % 65 + 1)) ≤ 2 ^ (M % 65) := Nat.pow_le_pow_right (by omega) hk
    refine walk2 U M C (M % 65) (C % (M % 65 + 1)) w (by omega) (by omega) (by omega) (by omega) (by omega) (by simp) hk ?_ ?_
    · unfold fits; rw [Int.toNat_natCast]; simp; intros; omega
    · unfold fits; rw [Int.toNat_natCast]; simp; intros; omega

set_option maxRecDepth 100000 in
theorem lifted (os : Os) (started : os.Started) (H : Type) (enc : TypeId × Value → H) :
    ReturnsInHanded {} Try.checked os 10 .any (Rows.bitsPartsSpec.pre6 enc Try.prog Try.f10 Rows.bitsPartsRow.domain false) (Rows.bitsPartsSpec.post enc Try.prog Try.f10 false true false false) := by
  refine returnsInHanded_of_change (C := Try.checked) own started (by kernel_rfl) Try.func10
    (ChangeSpec.witness6 (enc := enc) (C := Try.checked) false ⟨#[], #[.int .u64 0, .int .u8 0, .int .u8 0], []⟩ 8 (by kernel_rfl) (by kernel_rfl) (by kernel_rfl) (by kernel_rfl)) ?_
  intro W base args ds gs before hval0 hW hcnd _
  have hval : ∀ (j : Nat) t v, Try.f10.params[j]? = some t → args[j]? = some v → Value.okWide Try.prog W .any base t v := hval0
  have hW' := hW
  obtain ⟨p, q, hA0, hV, rfl, hfz, hnd⟩ := hW
  have hA : DataW.TrodAll enc Try.prog W 0 (fun _ => true) true Try.f10.params.toList args.toList ds p := hA0
  rw [Try.params10] at hA hval
  obtain ⟨v0, vs0, d0, ds0, p0, q0, hargs, rfl, rfl, h0, r0⟩ := trodAll_cons hA
  obtain ⟨v1, vs1, d1, ds1, p1, q1, rfl, rfl, rfl, h1, r1⟩ := trodAll_cons r0
  obtain ⟨v2, vs2, d2, ds2, p2, q2, rfl, rfl, rfl, h2, r2⟩ := trodAll_cons r1
  obtain ⟨rfl, rfl, rfl⟩ := trodAll_nil r2
  obtain rfl : args = #[v0, v1, v2] := by cases args; simp_all
  obtain ⟨rfl, rfl⟩ := trodVars_none hV
  obtain ⟨a0, rfl, rfl, rfl, w0⟩ := open_int Try.underlying25 (hval 0 25 v0 rfl rfl) h0
  obtain ⟨a1, rfl, rfl, rfl, w1⟩ := open_int Try.underlying5 (hval 1 5 v1 rfl rfl) h1
  obtain ⟨a2, rfl, rfl, rfl, w2⟩ := open_int Try.underlying5 (hval 2 5 v2 rfl rfl) h2
  clear hA0 hval0
  refine (walk a0 a1 a2 W w0 w1 w2).mono fun e W' ⟨he, bel⟩ => ?_
  subst he
  exact ⟨_, rfl, _, _, _, [], _, [], hW', trodAll_mk1 (shut_bool Try.underlying4 _), (trodAll_cons_mk (shut_int Try.underlying25 w0) (trodAll_cons_mk (shut_int Try.underlying5 w1) (trodAll_cons_mk (shut_int Try.underlying5 w2) trodAll_mk0))), rfl, bel.frame _, fun h => by cases h⟩

theorem over : Rows.bitsPartsRow.holds Try.pinned (OpenSpec.ofChange Rows.bitsPartsSpec) :=
  OpenClaim.holds_of_wide 10 Try.f10 rfl rfl rfl rfl rfl rfl rfl ⟨rfl, rfl, rfl, rfl, rfl⟩ rfl rfl rfl rfl rfl (by kernel_rfl) Try.func10 (by kernel_rfl)
    (of_decide_eq_true (by kernel_rfl)) (by unfold Func.isWrapper; first | (rw [if_pos (by decide +kernel)]; kernel_rfl) | (rw [if_neg (by decide +kernel)]; exact ⟨rfl, rfl⟩))
    (fun os started H enc _ => lifted os started H enc)

theorem proved : Rows.BitsPartsSaid := over
end bitsParts
theorem bitsParts_holds : Rows.BitsPartsSaid := bitsParts.proved
#print axioms bitsParts_holds
end Go.Proofs.Ytgeldifemnffbaa
