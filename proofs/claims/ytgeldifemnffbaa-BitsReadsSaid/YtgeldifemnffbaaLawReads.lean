/-
  The statement 'BitsReads' of layer 1: for every text, count of bits and script, whatever is read, wherever it stands: what is told, and what is left, is as the document says.
  No condition.
-/
import Derived.Test.YtgeldifemnffbaaRefB
import Derived.Test.YtgeldifemnffbaaOps
import Derived.ShutString
import Derived.ChangeOld
namespace Go.Proofs.Ytgeldifemnffbaa
namespace bitsReads
open Go.ChangeShapes Go.WideShapes Go.ChangeAt Go.RowKit
open Go.ChangeMaps (open_string shut_string)
set_option linter.unusedVariables false

theorem own : ownKnob Try.prog.godebug = none := by kernel_rfl
theorem laidOut : laidOutB Try.prog = true := by kernel_rfl

theorem op_cells {w wr : World} {a : Option Addr} {len : Nat} {z : List (Nat × Int)} (h : OpsAt w a len z) (hb : Below w.heap.size w wr) (j : Nat) (hj : j < len) :
    ∃ b off U N, a = some ⟨b, off, none⟩ ∧ wr.cell? ⟨b, off + j * 2, none⟩ = some (.int .u64 ((U : Nat) : Int)) ∧ wr.cell? ⟨b, off + j * 2 + 1, none⟩ = some (.int .i64 N) ∧ U < 18446744073709551616 ∧ (-9223372036854775808 ≤ N ∧ N ≤ 9223372036854775807) := by
  obtain ⟨hl, _, h1, h2, h3⟩ := h
  rcases h3 with h0 | ⟨b, off, rfl, hlt, hc⟩
  · omega
  · have hj' : j < z.length := by omega
    obtain ⟨c0, c1⟩ := hc j hj'
    refine ⟨b, off, z[j].1, z[j].2, rfl, ?_, ?_, h1 _ (List.getElem_mem hj'), h2 _ (List.getElem_mem hj')⟩
    · rw [hb.cell hlt]; exact c0
    · rw [hb.cell hlt]; exact c1

theorem bools_keepg {w w' : World} {a : Option Addr} {len r : Nat} {xs : List Bool} (h : BoolsAt w a len xs) (hg : w.grownBy w' (some r)) (hne : ∀ x, a = some x → x.block ≠ r) : BoolsAt w' a len xs := by
  refine ⟨h.1, ?_⟩
  rcases h.2 with h0 | ⟨b, off, rfl, hlt, hc⟩
  · exact .inl h0
  · exact .inr ⟨b, off, rfl, Nat.lt_of_lt_of_le hlt hg.size, fun i hi => hg.cell (hc i hi) (by intro e; exact hne _ rfl (by simpa using e))⟩

/-- A part of a slice of bools. -/
theorem part_bools (ad : Option Addr) (n cp a m : Nat) (h1 : a + m ≤ n) (h2 : n ≤ cp) : ∃ ad', (∀ W : World, (Instr.slice 28 (.slice ad n cp) (some (.int .i64 (a : Int))) (some (.int .i64 ((a : Int) + (m : Int)))) none).run Try.prog W = .ok (.slice ad' m (cp - a)) W) ∧
    ∀ (W : World) (bs : List Bool), BoolsAt W ad n bs → BoolsAt W ad' m ((bs.drop a).take m) := by
  have hrun : ∀ W : World, (Instr.slice 28 (.slice ad n cp) (some (.int .i64 (a : Int))) (some (.int .i64 ((a : Int) + (m : Int)))) none).run Try.prog W = .ok (.slice (if cp = a then ad else ad.map (·.add a)) m (cp - a)) W := by
    intro W
    rw [run_slice_lh W 28 _ _ _ (by kernel_rfl) .i64 .i64 (a : Int) ((a : Int) + (m : Int)) (by omega) (by omega) (by omega)]
    have hs : (sizeOf (Try.prog.elem 28)).run Try.prog W = .ok 1 W := by kernel_rfl
    rw [hs]
    simp only [Result.andThen, sliced, Int.toNat_natCast, Nat.mul_one]
    rw [show ((a : Int) + (m : Int)).toNat - a = m from by omega]
  refine ⟨_, hrun, fun W bs hb => ?_⟩
  obtain ⟨hl, hc⟩ := hb
  refine ⟨by simp; omega, ?_⟩
  by_cases hm : m = 0
  · exact .inl hm
  · right
    rcases hc with h0 | ⟨b, off, rfl, hlt, hc⟩
    · omega
    · rw [if_neg (by omega)]
      refine ⟨b, off + a, ?_, hlt, fun i hi => ?_⟩
      · unfold Addr.add
        by_cases ha : a = 0
        · subst ha; simp
        · simp [ha]
      · simp at hi
        simp only [List.getElem_take, List.getElem_drop]
        rw [Nat.add_assoc]
        exact hc (a + i) (by omega)

set_option maxRecDepth 100000 in
set_option maxHeartbeats 1000000 in
theorem walk0 (s : ByteArray) (many : Int) (a : Option Addr) (len cap : Nat) (w : World) (hs : 300 < s.size) (hm : s.size ≤ maxLen) :
    Calls Try.prog 4 #[.string s, .int .i64 many, .slice a len cap] w fun e w' => e = .returned (.bool true) ∧ Below w.heap.size w w' := by
  unfold maxLen at hm
  have hs' : (300 : Int) < (s.size : Int) := by omega
  go_enter Try.func4, Try.ntmps4
  go_wp2_with fail
  refine (known_any _).mono ?_
  rintro e W1 ⟨rfl, b1⟩
  go_wp2
  go_ret
  exact ⟨rfl, b1⟩

set_option maxRecDepth 100000 in
set_option maxHeartbeats 1000000 in
theorem walk1 (s : ByteArray) (many : Int) (a : Option Addr) (len cap : Nat) (w : World) (hs : s.size ≤ 300) (hm : many < 0 ∨ 8 * (s.size : Int) < many) :
    Calls Try.prog 4 #[.string s, .int .i64 many, .slice a len cap] w fun e w' => e = .returned (.bool true) ∧ Below w.heap.size w w' := by
  have hs' : (s.size : Int) ≤ 300 := by omega
  have HM := Lib.hid hm
  by_cases h0 : many < 0
  · clear hm
    go_enter Try.func4, Try.ntmps4
    go_wp2_with fail
    refine (read_bad s many _ (by omega) HM.out).mono ?_
    rintro e w' ⟨rfl, rfl⟩
    go_wp2_with fail
    refine (known_any _).mono ?_
    rintro e W1 ⟨rfl, b1⟩
    go_wp2
    go_ret
    exact ⟨rfl, b1⟩
  · have h2 : 8 * (s.size : Int) < many := by omega
    clear hm
    go_enter Try.func4, Try.ntmps4
    go_wp2_with fail
    refine (read_bad s many _ (by omega) HM.out).mono ?_
    rintro e w' ⟨rfl, rfl⟩
    go_wp2_with fail
    refine (known_any _).mono ?_
    rintro e W1 ⟨rfl, b1⟩
    go_wp2
    go_ret
    exact ⟨rfl, b1⟩

set_option maxRecDepth 100000 in
set_option maxHeartbeats 2000000 in
theorem walk2 (s : ByteArray) (n : Nat) (a : Option Addr) (len cap : Nat) (z : List (Nat × Int)) (w : World) (hs : s.size ≤ 300) (hn : n ≤ 8 * s.size) (hz : OpsAt w a len z) :
    Calls Try.prog 4 #[.string s, .int .i64 (n : Int), .slice a len cap] w fun e w' => e = .returned (.bool true) ∧ Below w.heap.size w w' := by
  have hs' : (s.size : Int) ≤ 300 := by omega
  have hd1 : decide (300 < (s.size : Int)) = false := by simp; omega
  have hd2 : decide ((n : Int) < 0) = false := by simp
  have hd3 : decide (8 * (s.size : Int) < (n : Int)) = false := by simp; omega
  have hlen := hz.2.1
  go_enter Try.func4, Try.ntmps4
  go_wp2_with fail
  refine (read_ok s n _ (by omega) hn).mono ?_
  rintro e W1 ⟨r, rfl, hr1, hr, b1⟩
  have s1 : w.heap.size ≤ W1.heap.size := b1.size
  go_wp2_with fail
  refine (of_any s n _ hs hn).mono ?_
  rintro e W2 ⟨ad, cp, rfl, hcp, hba, HAD, b2⟩
  have hr2 := hr1.keep (gb_below (row := none) b2) (by simp)
  have B2 := bel_gbn b1 s1 (gb_below b2)
  have s2 := Nat.le_trans s1 b2.size
  have hbl : (bitsL s.data.toList n).length = n := bitsL_length _ _
  have hadr : Hid (∀ x, ad = some x → x.block ≠ r) := by
    intro x hx e
    have h1 := HAD.out x hx
    have h2 := hr1.lt
    omega
  rw [hbl] at hba hcp ⊢
  have HBL := Lib.hid hbl
  clear hbl b1 b2 hr1 HAD s1
  generalize bitsL s.data.toList n = bs at *
  clear W1
  go_wp2_with fail
  go_loopw [10, 11] (fun at' i wr => ∃ p j : Nat, p ≤ n ∧ j ≤ len ∧ j ≤ 60 ∧ at' = .int .i64 (p : Int) ∧ i = .int .i64 (j : Int) ∧ RdAt wr r bs p ∧ BoolsAt wr ad n bs ∧ Below w.heap.size w wr) (fun _ i _ => 60 - (intOf i).toNat)
  case atStart => exact ⟨0, 0, Nat.zero_le _, Nat.zero_le _, Nat.zero_le _, rfl, rfl, hr2, hba, B2⟩
  case round =>
    obtain ⟨p, j, hp, hj, hj60, rfl, rfl, hr3, hb3, B3⟩ := hrel
    have s3 := B3.size
    by_cases hjl : j < len
    · by_cases hj6 : j < 60
      · obtain ⟨b, off, U, N, rfl, c0, c1, hU, hN⟩ := op_cells hz B3 j hjl
        by_cases hU0 : U = 0
        · subst hU0
          by_cases hNr : 0 ≤ N ∧ N ≤ (n : Int)
          · obtain ⟨m, rfl⟩ := Int.eq_ofNat_of_zero_le hNr.1
            have hmn : m ≤ n := by omega
            have hk1 : decide ((0 : Int) ≤ (m : Int)) = true := by simp
            have hk2 : decide (m ≤ n) = true := by simp; omega
            go_wp2_with fail
            refine (seek_ok r bs p m _ hr3 (by rw [HBL.out]; omega)).mono ?_
            rintro e W4 ⟨rfl, hr4, g4⟩
            have hb4 := bools_keepg hb3 g4 hadr.out
            have B4 := bel_gb B3 s3 hr g4
            have s4 := Nat.le_trans s3 g4.size
            clear hr3 hb3 B3 s3 g4 c0 c1 hNr
            go_wp2_with fail
            refine (left_any r bs m _ hr4).mono ?_
            rintro e W5 ⟨rfl, d5⟩
            have hr5 := hr4.keep (d5.gb none) (by simp)
            have hb5 := hb4.keep (gb_below_none (d5.gb none))
            have B5 := bel_gbn B4 s4 (d5.gb none)
            rw [HBL.out]
            clear hr4 hb4 B4 s4 d5
            go_wp2
            go_roundw
            case rel => exact ⟨m, j + 1, by omega, by omega, by omega, by go_num, by go_num, hr5, hb5, B5⟩
            case measure => simp [intOf]; omega
          · by_cases h0 : 0 ≤ N
            · have h1 : (n : Int) < N := by omega
              have hk1 : decide ((0 : Int) ≤ N) = true := by simp; omega
              have hk2 : decide (N ≤ (n : Int)) = false := by simp; omega
              go_wp2_with fail
              refine (seek_bad r bs p N _ hr3 (by rw [HBL.out]; omega)).mono ?_
              rintro e w' ⟨rfl, rfl⟩
              have hr4 := hr3
              have hb4 := hb3
              have B4 := B3
              have s4 := s3
              clear hr3 hb3 B3 s3 c0 c1 hNr
              go_wp2_with fail
              refine (left_any r bs p _ hr4).mono ?_
              rintro e W5 ⟨rfl, d5⟩
              have hr5 := hr4.keep (d5.gb none) (by simp)
              have hb5 := hb4.keep (gb_below_none (d5.gb none))
              have B5 := bel_gbn B4 s4 (d5.gb none)
              rw [HBL.out]
              clear hr4 hb4 B4 s4 d5
              go_wp2
              go_roundw
              case rel => exact ⟨p, j + 1, by omega, by omega, by omega, by go_num, by go_num, hr5, hb5, B5⟩
              case measure => simp [intOf]; omega
            · have h1 : N < 0 := by omega
              have hk1 : decide ((0 : Int) ≤ N) = false := by simp; omega
              go_wp2_with fail
              refine (seek_bad r bs p N _ hr3 (by omega)).mono ?_
              rintro e w' ⟨rfl, rfl⟩
              have hr4 := hr3
              have hb4 := hb3
              have B4 := B3
              have s4 := s3
              clear hr3 hb3 B3 s3 c0 c1 hNr
              go_wp2_with fail
              refine (left_any r bs p _ hr4).mono ?_
              rintro e W5 ⟨rfl, d5⟩
              have hr5 := hr4.keep (d5.gb none) (by simp)
              have hb5 := hb4.keep (gb_below_none (d5.gb none))
              have B5 := bel_gbn B4 s4 (d5.gb none)
              rw [HBL.out]
              clear hr4 hb4 B4 s4 d5
              go_wp2
              go_roundw
              case rel => exact ⟨p, j + 1, by omega, by omega, by omega, by go_num, by go_num, hr5, hb5, B5⟩
              case measure => simp [intOf]; omega
        · have hU1 : (((U : Nat) : Int) == 0) = false := by simp; omega
          by_cases hA : N < 0
          · go_wp2_with fail
            refine (get_arg r bs p N _ hr3 (by omega)).mono ?_
            rintro e w' ⟨rfl, rfl⟩
            have hr4 := hr3
            have hb4 := hb3
            have B4 := B3
            have s4 := s3
            clear hr3 hb3 B3 s3 c0 c1
            go_wp2_with fail
            refine (left_any r bs p _ hr4).mono ?_
            rintro e W5 ⟨rfl, d5⟩
            have hr5 := hr4.keep (d5.gb none) (by simp)
            have hb5 := hb4.keep (gb_below_none (d5.gb none))
            have B5 := bel_gbn B4 s4 (d5.gb none)
            rw [HBL.out]
            clear hr4 hb4 B4 s4 d5
            go_wp2
            go_roundw
            case rel => exact ⟨p, j + 1, by omega, by omega, by omega, by go_num, by go_num, hr5, hb5, B5⟩
            case measure => simp [intOf]; omega
          · by_cases hA2 : 64 < N
            · go_wp2_with fail
              refine (get_arg r bs p N _ hr3 (by omega)).mono ?_
              rintro e w' ⟨rfl, rfl⟩
              have hr4 := hr3
              have hb4 := hb3
              have B4 := B3
              have s4 := s3
              clear hr3 hb3 B3 s3 c0 c1
              go_wp2_with fail
              refine (left_any r bs p _ hr4).mono ?_
              rintro e W5 ⟨rfl, d5⟩
              have hr5 := hr4.keep (d5.gb none) (by simp)
              have hb5 := hb4.keep (gb_below_none (d5.gb none))
              have B5 := bel_gbn B4 s4 (d5.gb none)
              rw [HBL.out]
              clear hr4 hb4 B4 s4 d5
              go_wp2
              go_roundw
              case rel => exact ⟨p, j + 1, by omega, by omega, by omega, by go_num, by go_num, hr5, hb5, B5⟩
              case measure => simp [intOf]; omega
            · obtain ⟨m, rfl⟩ := Int.eq_ofNat_of_zero_le (show 0 ≤ N by omega)
              have hm64 : m ≤ 64 := by omega
              by_cases hA3 : n - p < m
              · have hk : decide ((n : Int) - (p : Int) < (m : Int)) = true := by simp; omega
                go_wp2_with fail
                refine (get_short r bs p m _ hr3 hm64 (by rw [HBL.out]; omega)).mono ?_
                rintro e W4 ⟨rfl, d4⟩
                have hr4 := hr3.keep (d4.gb none) (by simp)
                have hb4 := hb3.keep (gb_below_none (d4.gb none))
                have B4 := bel_gbn B3 s3 (d4.gb none)
                have s4 := Nat.le_trans s3 (d4.gb none).size
                clear hr3 hb3 B3 s3 c0 c1 d4
                go_wp2_with fail
                refine (left_any r bs p _ hr4).mono ?_
                rintro e W5 ⟨rfl, d5⟩
                have hr5 := hr4.keep (d5.gb none) (by simp)
                have hb5 := hb4.keep (gb_below_none (d5.gb none))
                have B5 := bel_gbn B4 s4 (d5.gb none)
                rw [HBL.out]
                clear hr4 hb4 B4 s4 d5
                go_wp2
                go_roundw
                case rel => exact ⟨p, j + 1, by omega, by omega, by omega, by go_num, by go_num, hr5, hb5, B5⟩
                case measure => simp [intOf]; omega
              · have hk : decide ((n : Int) - (p : Int) < (m : Int)) = false := by simp; omega
                go_wp2_with fail
                refine (get_ok r bs p m _ hr3 hm64 (by rw [HBL.out]; omega)).mono ?_
                rintro e W4 ⟨rfl, hr4, g4⟩
                have hb4 := bools_keepg hb3 g4 hadr.out
                have B4 := bel_gb B3 s3 hr g4
                have s4 := Nat.le_trans s3 g4.size
                clear hr3 hb3 B3 s3 g4 c0 c1
                obtain ⟨ad', hsl, hpb⟩ := part_bools ad n cp p m (by omega) hcp
                have hbp := hpb W4 bs hb4
                have HBP := Lib.hid hbp
                obtain ⟨u, hu⟩ : ∃ u, u = num ((bs.drop p).take m) := ⟨_, rfl⟩
                rw [← hu]
                have HU := Lib.hid hu
                clear hu hbp hpb
                go_wp2_with fail
                refine (number_any ad' m (cp - p) _ _ HBP.out hm64).mono ?_
                rintro e w' ⟨rfl, rfl⟩
                rw [← HU.out]
                clear HBP hsl
                go_wp2_with fail
                refine (left_any r bs (p + m) _ hr4).mono ?_
                rintro e W5 ⟨rfl, d5⟩
                have hr5 := hr4.keep (d5.gb none) (by simp)
                have hb5 := hb4.keep (gb_below_none (d5.gb none))
                have B5 := bel_gbn B4 s4 (d5.gb none)
                rw [HBL.out, show ((n : Nat) : Int) - ((p + m : Nat) : Int) = (n : Int) - ((p : Int) + (m : Int)) from by omega]
                clear hr4 hb4 B4 s4 d5
                go_wp2
                go_roundw
                case rel => exact ⟨p + m, j + 1, by omega, by omega, by omega, by go_num, by go_num, hr5, hb5, B5⟩
                case measure => simp [intOf]; omega
      · obtain rfl : j = 60 := by omega
        go_wp2_with fail
        refine (known_any _).mono ?_
        rintro e W4 ⟨rfl, b4⟩
        have B4 := bel_gbn B3 s3 (gb_below b4)
        clear b4 B3 hr3 hb3
        go_wp2
        go_ret
        exact ⟨rfl, B4⟩
    · obtain rfl : j = len := by omega
      go_wp2_with fail
      refine (known_any _).mono ?_
      rintro e W4 ⟨rfl, b4⟩
      have B4 := bel_gbn B3 s3 (gb_below b4)
      clear b4 B3 hr3 hb3
      go_wp2
      go_ret
      exact ⟨rfl, B4⟩

theorem walk (a0 : ByteArray) (a1 : Int) (a2 : Option Addr) (len2 cap2 : Nat) (z2 : List (Nat × Int)) (w : World) (w0 : a0.size ≤ maxLen) (w1 : (Lit.int .i64 a1).wf = true) (w2 : OpsAt w a2 len2 z2) :
    Calls Try.prog 4 #[.string a0, .int .i64 a1, .slice a2 len2 cap2] w fun e w' => e = .returned (.bool true) ∧ Below w.heap.size w w' := by
  by_cases hs : 300 < a0.size
  · exact walk0 a0 a1 a2 len2 cap2 w hs w0
  · by_cases hm : a1 < 0 ∨ 8 * (a0.size : Int) < a1
    · exact walk1 a0 a1 a2 len2 cap2 w (by omega) hm
    · obtain ⟨n, rfl⟩ := Int.eq_ofNat_of_zero_le (show 0 ≤ a1 by omega)
      exact walk2 a0 n a2 len2 cap2 z2 w (by omega) (by omega) w2

set_option maxRecDepth 100000 in
theorem lifted (os : Os) (started : os.Started) (H : Type) (enc : TypeId × Value → H) :
    ReturnsInHanded {} Try.checked os 4 .any (Rows.bitsReadsSpec.pre6 enc Try.prog Try.f4 Rows.bitsReadsRow.domain false) (Rows.bitsReadsSpec.post enc Try.prog Try.f4 false true false false) := by
  refine returnsInHanded_of_change (C := Try.checked) own started (by kernel_rfl) Try.func4
    (ChangeSpec.witness6 (enc := enc) (C := Try.checked) false ⟨#[], #[.string ByteArray.empty, .int .i64 0, .slice none 0 0], []⟩ 8 (by kernel_rfl) (by kernel_rfl) (by kernel_rfl) (by kernel_rfl)) ?_
  intro W base args ds gs before hval0 hW hcnd _
  have hval : ∀ (j : Nat) t v, Try.f4.params[j]? = some t → args[j]? = some v → Value.okWide Try.prog W .any base t v := hval0
  have hW' := hW
  obtain ⟨p, q, hA0, hV, rfl, hfz, hnd⟩ := hW
  have hA : DataW.TrodAll enc Try.prog W 0 (fun _ => true) true Try.f4.params.toList args.toList ds p := hA0
  rw [Try.params4] at hA hval
  obtain ⟨v0, vs0, d0, ds0, p0, q0, hargs, rfl, rfl, h0, r0⟩ := trodAll_cons hA
  obtain ⟨v1, vs1, d1, ds1, p1, q1, rfl, rfl, rfl, h1, r1⟩ := trodAll_cons r0
  obtain ⟨v2, vs2, d2, ds2, p2, q2, rfl, rfl, rfl, h2, r2⟩ := trodAll_cons r1
  obtain ⟨rfl, rfl, rfl⟩ := trodAll_nil r2
  obtain rfl : args = #[v0, v1, v2] := by cases args; simp_all
  obtain ⟨rfl, rfl⟩ := trodVars_none hV
  obtain ⟨a0, rfl, rfl, rfl, w0⟩ := open_string Try.underlying9 (hval 0 9 v0 rfl rfl) h0
  obtain ⟨a1, rfl, rfl, rfl, w1⟩ := open_int Try.underlying3 (hval 1 3 v1 rfl rfl) h1
  obtain ⟨a2, len2, cap2, rfl⟩ := okWide_slice Try.underlying22 (hval 2 22 v2 rfl rfl)
  have k2 := h2
  have lt2 : ∀ x ∈ p2, x.block < W.heap.size := by obtain ⟨m, hm⟩ := k2; exact DataW.trod_lt m _ _ _ hm
  obtain ⟨z2, w2⟩ := open_ops h2
  clear hA0 hval0
  refine (walk a0 a1 a2 len2 cap2 z2 W w0 w1 w2).mono fun e W' ⟨he, bel⟩ => ?_
  subst he
  exact ⟨_, rfl, _, _, _, [], _, [], hW', trodAll_mk1 (shut_bool Try.underlying4 _), (trodAll_cons_mk (shut_string Try.underlying9 w0) (trodAll_cons_mk (shut_int Try.underlying3 w1) (trodAll_cons_mk (Below.trod laidOut (by kernel_rfl) (of_decide_eq_true (by kernel_rfl)) k2 bel lt2) trodAll_mk0))), rfl, bel.frame _, fun h => by cases h⟩

theorem over : Rows.bitsReadsRow.holds Try.pinned (OpenSpec.ofChange Rows.bitsReadsSpec) :=
  OpenClaim.holds_of_wide 4 Try.f4 rfl rfl rfl rfl rfl rfl rfl ⟨rfl, rfl, rfl, rfl, rfl⟩ rfl rfl rfl rfl rfl (by kernel_rfl) Try.func4 (by kernel_rfl)
    (of_decide_eq_true (by kernel_rfl)) (by unfold Func.isWrapper; first | (rw [if_pos (by decide +kernel)]; kernel_rfl) | (rw [if_neg (by decide +kernel)]; exact ⟨rfl, rfl⟩))
    (fun os started H enc _ => lifted os started H enc)

theorem proved : Rows.BitsReadsSaid := over
end bitsReads
theorem bitsReads_holds : Rows.BitsReadsSaid := bitsReads.proved
#print axioms bitsReads_holds
end Go.Proofs.Ytgeldifemnffbaa
