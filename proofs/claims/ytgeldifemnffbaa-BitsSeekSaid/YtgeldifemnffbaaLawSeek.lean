/-
  The statement 'BitsSeek' of layer 1: for every text, place and count of bits, wherever a Reader stands, the bits that are read are those of the bytes at that place, and it stands behind them.
  No condition.
-/
import Derived.Test.YtgeldifemnffbaaKnown
import Derived.ProofKit
import Derived.OpenShut
import Derived.ShutString
import Derived.ChangeOld
namespace Go.Proofs.Ytgeldifemnffbaa
namespace bitsSeek
open Go.ChangeShapes Go.WideShapes Go.ChangeAt Go.RowKit
open Go.ChangeMaps (open_string shut_string)
set_option linter.unusedVariables false

theorem own : ownKnob Try.prog.godebug = none := by kernel_rfl

set_option maxRecDepth 100000 in
set_option maxHeartbeats 1000000 in
theorem walk0 (s : ByteArray) (A Q : Int) (w : World) (hs : 100 < s.size) (hm : s.size ≤ maxLen) :
    Calls Try.prog 9 #[.string s, .int .u16 A, .int .u8 Q] w fun e w' => e = .returned (.bool true) ∧ Below w.heap.size w w' := by
  unfold maxLen at hm
  have hs' : (100 : Int) < (s.size : Int) := by omega
  go_enter Try.func9, Try.ntmps9
  go_wp2_with fail
  refine (known_any _).mono ?_
  rintro e W1 ⟨rfl, b1⟩
  go_wp2
  go_ret
  exact ⟨rfl, b1⟩

set_option maxRecDepth 100000 in
set_option maxHeartbeats 1000000 in
theorem walkA (s : ByteArray) (A Q k q m : Nat) (w : World) (hs : s.size ≤ 100) (hA : A ≤ 65535) (hQ : Q ≤ 255) (hk : (A : Int) % (8 * (s.size : Int) + 1) = (k : Int)) (hkn : k ≤ 8 * s.size) (hq : (Q : Int) % 65 = (q : Int)) (hq64 : q ≤ 64) (hmin : q ≤ 8 * s.size - k) (hm : m = q) :
    Calls Try.prog 9 #[.string s, .int .u16 (A : Int), .int .u8 (Q : Int)] w fun e w' => e = .returned (.bool true) ∧ Below w.heap.size w w' := by
  have hs' : (s.size : Int) ≤ 100 := by omega
  have hd : decide (100 < (s.size : Int)) = false := by simp; omega
  go_enter Try.func9, Try.ntmps9
  go_wp2_with fail
  rw [hk]
  subst hm
  have hb1 : m ≤ 64 := by omega
  have hb2 : k + m ≤ 8 * s.size := by omega
  clear hmin hq hk
  refine (read_okI s _ _ (by omega) (by omega) (by omega)).mono ?_
  rintro e W1 ⟨r, rfl, hr1, hr, b1⟩
  have hs1 : w.heap.size ≤ W1.heap.size := b1.size
  have e8 : (8 * (s.size : Int)).toNat = 8 * s.size := by omega
  rw [e8] at hr1
  have hbl : (bitsL s.data.toList (8 * s.size)).length = 8 * s.size := bitsL_length _ _
  have HBL := Lib.hid hbl
  have HBS := Lib.hid (fun p (hp : p < (bitsL s.data.toList (8 * s.size)).length) => bitsL_get (rfl : bitsL s.data.toList (8 * s.size) = _) p hp)
  generalize bitsL s.data.toList (8 * s.size) = bs at *
  clear hbl e8
  go_wp2_with fail
  refine (seek_ok r bs 0 k _ hr1 (by rw [HBL.out]; omega)).mono ?_
  rintro e W2 ⟨rfl, hr2, g2⟩
  have B2 := bel_gb b1 hs1 hr g2
  have s2 := Nat.le_trans hs1 g2.size
  clear b1 hs1 g2 hr1 W1
  go_wp2_with fail
  refine (get_ok r bs k m _ hr2 hb1 (by rw [HBL.out]; omega)).mono ?_
  rintro e W3 ⟨rfl, hr3, g3⟩
  have B3 := bel_gb B2 s2 hr g3
  have s3 := Nat.le_trans s2 g3.size
  clear B2 s2 g3 hr2 W2
  obtain ⟨u, hu⟩ : ∃ u, u = num ((bs.drop k).take m) := ⟨_, rfl⟩
  rw [← hu]
  have HU := Lib.hid hu
  clear hu
  go_wp2_with fail
  go_loop [14, 15] (fun v i => ∃ j : Nat, j ≤ m ∧ i = .int .i64 ((k + j : Nat) : Int) ∧ v = .int .u64 (num ((bs.drop k).take j) : Int)) (fun _ i => k + m - (intOf i).toNat)
  case atStart => exact ⟨0, Nat.zero_le _, rfl, rfl⟩
  case round =>
    obtain ⟨j, hj, rfl, rfl⟩ := hrel
    by_cases hjm : j < m
    · have hlj : k + j < bs.length := by rw [HBL.out]; omega
      have hnum : num ((bs.drop k).take j) < 9223372036854775808 := by
        have h1 := num_lt ((bs.drop k).take j)
        have h2 : 2 ^ ((bs.drop k).take j).length ≤ 2 ^ 63 := Nat.pow_le_pow_right (by omega) (by have := List.length_take_le j (bs.drop k); omega)
        have h3 : (2 : Nat) ^ 63 = 9223372036854775808 := by decide
        omega
      have HN := Lib.hid (take_snoc bs k j hlj)
      obtain ⟨v, hv⟩ : ∃ v, v = num ((bs.drop k).take j) := ⟨_, rfl⟩
      rw [← hv] at hnum ⊢
      have HV := Lib.hid hv
      clear hv
      have hi : (k + j) / 8 < s.size := by omega
      have HX := Lib.hid (HBS.out (k + j) hlj)
      have HBV := Lib.hid (bit_val s (k + j) hi)
      go_wp2
      refine ⟨⟨j + 1, by omega, by go_num, ?_⟩, by simp [intOf]; omega⟩
      rw [HBV.out, ← HX.out, HN.out, num_snoc, ← HV.out]
      have hbt : (bs[k + j]).toNat ≤ 1 := by cases bs[k + j] <;> simp
      rw [show (2 * (v : Int) + ((bs[k + j]).toNat : Int)) = ((2 * v + (bs[k + j]).toNat : Nat) : Int) from by omega, wrap_u64_nat _ (by omega)]
    · obtain rfl : j = m := by omega
      rw [← HU.out]
      go_wp2_with fail
      refine (left_any r bs _ _ hr3).mono ?_
      rintro e W4 ⟨rfl, d4⟩
      have B4 := bel_gbn B3 s3 (d4.gb none)
      have s4 := Nat.le_trans s3 (d4.gb none).size
      rw [HBL.out, show (((8 * s.size : Nat) : Int) - ((k + j : Nat) : Int)) = 8 * (s.size : Int) - (k : Int) - (j : Int) from by omega]
      clear B3 s3 d4 hr3
      go_wp2_with fail
      refine (known_any _).mono ?_
      rintro e W5 ⟨rfl, b5⟩
      have B5 := bel_gbn B4 s4 (gb_below b5)
      clear b5 B4 s4
      go_wp2
      go_ret
      exact ⟨rfl, B5⟩

set_option maxRecDepth 100000 in
set_option maxHeartbeats 1000000 in
theorem walkB (s : ByteArray) (A Q k q m : Nat) (w : World) (hs : s.size ≤ 100) (hA : A ≤ 65535) (hQ : Q ≤ 255) (hk : (A : Int) % (8 * (s.size : Int) + 1) = (k : Int)) (hkn : k ≤ 8 * s.size) (hq : (Q : Int) % 65 = (q : Int)) (hq64 : q ≤ 64) (hmin : 8 * s.size - k < q) (hm : m = 8 * s.size - k) :
    Calls Try.prog 9 #[.string s, .int .u16 (A : Int), .int .u8 (Q : Int)] w fun e w' => e = .returned (.bool true) ∧ Below w.heap.size w w' := by
  have hs' : (s.size : Int) ≤ 100 := by omega
  have hd : decide (100 < (s.size : Int)) = false := by simp; omega
  have HM := Lib.hid hm
  clear hm
  go_enter Try.func9, Try.ntmps9
  go_wp2_with fail
  have hm := HM.out
  rw [hk, show 8 * (s.size : Int) - (k : Int) = (m : Int) from by omega]
  have hb1 : m ≤ 64 := by omega
  have hb2 : k + m ≤ 8 * s.size := by omega
  clear hmin hq hk hm
  refine (read_okI s _ _ (by omega) (by omega) (by omega)).mono ?_
  rintro e W1 ⟨r, rfl, hr1, hr, b1⟩
  have hs1 : w.heap.size ≤ W1.heap.size := b1.size
  have e8 : (8 * (s.size : Int)).toNat = 8 * s.size := by omega
  rw [e8] at hr1
  have hbl : (bitsL s.data.toList (8 * s.size)).length = 8 * s.size := bitsL_length _ _
  have HBL := Lib.hid hbl
  have HBS := Lib.hid (fun p (hp : p < (bitsL s.data.toList (8 * s.size)).length) => bitsL_get (rfl : bitsL s.data.toList (8 * s.size) = _) p hp)
  generalize bitsL s.data.toList (8 * s.size) = bs at *
  clear hbl e8
  go_wp2_with fail
  refine (seek_ok r bs 0 k _ hr1 (by rw [HBL.out]; omega)).mono ?_
  rintro e W2 ⟨rfl, hr2, g2⟩
  have B2 := bel_gb b1 hs1 hr g2
  have s2 := Nat.le_trans hs1 g2.size
  clear b1 hs1 g2 hr1 W1
  go_wp2_with fail
  refine (get_ok r bs k m _ hr2 hb1 (by rw [HBL.out]; omega)).mono ?_
  rintro e W3 ⟨rfl, hr3, g3⟩
  have B3 := bel_gb B2 s2 hr g3
  have s3 := Nat.le_trans s2 g3.size
  clear B2 s2 g3 hr2 W2
  obtain ⟨u, hu⟩ : ∃ u, u = num ((bs.drop k).take m) := ⟨_, rfl⟩
  rw [← hu]
  have HU := Lib.hid hu
  clear hu
  go_wp2_with fail
  go_loop [14, 15] (fun v i => ∃ j : Nat, j ≤ m ∧ i = .int .i64 ((k + j : Nat) : Int) ∧ v = .int .u64 (num ((bs.drop k).take j) : Int)) (fun _ i => k + m - (intOf i).toNat)
  case atStart => exact ⟨0, Nat.zero_le _, rfl, rfl⟩
  case round =>
    obtain ⟨j, hj, rfl, rfl⟩ := hrel
    by_cases hjm : j < m
    · have hlj : k + j < bs.length := by rw [HBL.out]; omega
      have hnum : num ((bs.drop k).take j) < 9223372036854775808 := by
        have h1 := num_lt ((bs.drop k).take j)
        have h2 : 2 ^ ((bs.drop k).take j).length ≤ 2 ^ 63 := Nat.pow_le_pow_right (by omega) (by have := List.length_take_le j (bs.drop k); omega)
        have h3 : (2 : Nat) ^ 63 = 9223372036854775808 := by decide
        omega
      have HN := Lib.hid (take_snoc bs k j hlj)
      obtain ⟨v, hv⟩ : ∃ v, v = num ((bs.drop k).take j) := ⟨_, rfl⟩
      rw [← hv] at hnum ⊢
      have HV := Lib.hid hv
      clear hv
      have hi : (k + j) / 8 < s.size := by omega
      have HX := Lib.hid (HBS.out (k + j) hlj)
      have HBV := Lib.hid (bit_val s (k + j) hi)
      go_wp2
      refine ⟨⟨j + 1, by omega, by go_num, ?_⟩, by simp [intOf]; omega⟩
      rw [HBV.out, ← HX.out, HN.out, num_snoc, ← HV.out]
      have hbt : (bs[k + j]).toNat ≤ 1 := by cases bs[k + j] <;> simp
      rw [show (2 * (v : Int) + ((bs[k + j]).toNat : Int)) = ((2 * v + (bs[k + j]).toNat : Nat) : Int) from by omega, wrap_u64_nat _ (by omega)]
    · obtain rfl : j = m := by omega
      rw [← HU.out]
      go_wp2_with fail
      refine (left_any r bs _ _ hr3).mono ?_
      rintro e W4 ⟨rfl, d4⟩
      have B4 := bel_gbn B3 s3 (d4.gb none)
      have s4 := Nat.le_trans s3 (d4.gb none).size
      rw [HBL.out, show (((8 * s.size : Nat) : Int) - ((k + j : Nat) : Int)) = 8 * (s.size : Int) - (k : Int) - (j : Int) from by omega]
      clear B3 s3 d4 hr3
      go_wp2_with fail
      refine (known_any _).mono ?_
      rintro e W5 ⟨rfl, b5⟩
      have B5 := bel_gbn B4 s4 (gb_below b5)
      clear b5 B4 s4
      go_wp2
      go_ret
      exact ⟨rfl, B5⟩

theorem walk (a0 : ByteArray) (a1 a2 : Int) (w : World) (w0 : a0.size ≤ maxLen) (w1 : (Lit.int .u16 a1).wf = true) (w2 : (Lit.int .u8 a2).wf = true) :
    Calls Try.prog 9 #[.string a0, .int .u16 a1, .int .u8 a2] w fun e w' => e = .returned (.bool true) ∧ Below w.heap.size w w' := by
  by_cases hs : 100 < a0.size
  · exact walk0 a0 a1 a2 w hs w0
  · have b1 := bounds_u16 w1
    have b2 := bounds_u8 w2
    obtain ⟨A, rfl⟩ := Int.eq_ofNat_of_zero_le b1.1
    obtain ⟨Q, rfl⟩ := Int.eq_ofNat_of_zero_le b2.1
    have hk : A % (8 * a0.size + 1) ≤ 8 * a0.size := by have := Nat.mod_lt A (show 0 < 8 * a0.size + 1 by omega); omega
    by_cases hm : Q % 65 ≤ 8 * a0.size - A % (8 * a0.size + 1)
    · exact walkA a0 A Q (A % (8 * a0.size + 1)) (Q % 65) (Q % 65) w (by omega) (by omega) (by omega) (by simp) hk (by omega) (by omega) hm rfl
    · exact walkB a0 A Q (A % (8 * a0.size + 1)) (Q % 65) (8 * a0.size - A % (8 * a0.size + 1)) w (by omega) (by omega) (by omega) (by simp) hk (by omega) (by omega) (by omega) rfl

set_option maxRecDepth 100000 in
theorem lifted (os : Os) (started : os.Started) (H : Type) (enc : TypeId × Value → H) :
    ReturnsInHanded {} Try.checked os 9 .any (Rows.bitsSeekSpec.pre6 enc Try.prog Try.f9 Rows.bitsSeekRow.domain false) (Rows.bitsSeekSpec.post enc Try.prog Try.f9 false true false false) := by
  refine returnsInHanded_of_change (C := Try.checked) own started (by kernel_rfl) Try.func9
    (ChangeSpec.witness6 (enc := enc) (C := Try.checked) false ⟨#[], #[.string ByteArray.empty, .int .u16 0, .int .u8 0], []⟩ 8 (by kernel_rfl) (by kernel_rfl) (by kernel_rfl) (by kernel_rfl)) ?_
  intro W base args ds gs before hval0 hW hcnd _
  have hval : ∀ (j : Nat) t v, Try.f9.params[j]? = some t → args[j]? = some v → Value.okWide Try.prog W .any base t v := hval0
  have hW' := hW
  obtain ⟨p, q, hA0, hV, rfl, hfz, hnd⟩ := hW
  have hA : DataW.TrodAll enc Try.prog W 0 (fun _ => true) true Try.f9.params.toList args.toList ds p := hA0
  rw [Try.params9] at hA hval
  obtain ⟨v0, vs0, d0, ds0, p0, q0, hargs, rfl, rfl, h0, r0⟩ := trodAll_cons hA
  obtain ⟨v1, vs1, d1, ds1, p1, q1, rfl, rfl, rfl, h1, r1⟩ := trodAll_cons r0
  obtain ⟨v2, vs2, d2, ds2, p2, q2, rfl, rfl, rfl, h2, r2⟩ := trodAll_cons r1
  obtain ⟨rfl, rfl, rfl⟩ := trodAll_nil r2
  obtain rfl : args = #[v0, v1, v2] := by cases args; simp_all
  obtain ⟨rfl, rfl⟩ := trodVars_none hV
  obtain ⟨a0, rfl, rfl, rfl, w0⟩ := open_string Try.underlying9 (hval 0 9 v0 rfl rfl) h0
  obtain ⟨a1, rfl, rfl, rfl, w1⟩ := open_int Try.underlying52 (hval 1 52 v1 rfl rfl) h1
  obtain ⟨a2, rfl, rfl, rfl, w2⟩ := open_int Try.underlying5 (hval 2 5 v2 rfl rfl) h2
  clear hA0 hval0
  refine (walk a0 a1 a2 W w0 w1 w2).mono fun e W' ⟨he, bel⟩ => ?_
  subst he
  exact ⟨_, rfl, _, _, _, [], _, [], hW', trodAll_mk1 (shut_bool Try.underlying4 _), (trodAll_cons_mk (shut_string Try.underlying9 w0) (trodAll_cons_mk (shut_int Try.underlying52 w1) (trodAll_cons_mk (shut_int Try.underlying5 w2) trodAll_mk0))), rfl, bel.frame _, fun h => by cases h⟩

theorem over : Rows.bitsSeekRow.holds Try.pinned (OpenSpec.ofChange Rows.bitsSeekSpec) :=
  OpenClaim.holds_of_wide 9 Try.f9 rfl rfl rfl rfl rfl rfl rfl ⟨rfl, rfl, rfl, rfl, rfl⟩ rfl rfl rfl rfl rfl (by kernel_rfl) Try.func9 (by kernel_rfl)
    (of_decide_eq_true (by kernel_rfl)) (by unfold Func.isWrapper; first | (rw [if_pos (by decide +kernel)]; kernel_rfl) | (rw [if_neg (by decide +kernel)]; exact ⟨rfl, rfl⟩))
    (fun os started H enc _ => lifted os started H enc)

theorem proved : Rows.BitsSeekSaid := over
end bitsSeek
theorem bitsSeek_holds : Rows.BitsSeekSaid := bitsSeek.proved
#print axioms bitsSeek_holds
end Go.Proofs.Ytgeldifemnffbaa
