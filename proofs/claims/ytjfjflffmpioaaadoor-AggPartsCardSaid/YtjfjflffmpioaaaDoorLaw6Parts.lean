/-
  The statement 'AggParts' of layer 6: numbers in two parts, the second one added to what the first one made, make what all make; the least, the greatest, how many, what is between, and the sum as long as it is beyond no end, are the same in any order.
  No condition on the arguments; the tables (the kinds' names, and Go's own for texts) are as the program's text lays them (the card ties that).
-/
import Derived.Test.YtjfjflffmpioaaaDoorAKnown
import Derived.Test.YtjfjflffmpioaaaDoorALaid
import Derived.Test.YtjfjflffmpioaaaDoorTie
import Derived.Test.YtjfjflffmpioaaaDoorCards
import Derived.Test.YtjfjflffmpioaaaDoorAParts
import Derived.ShutString
import Derived.ChangeOld
import Derived.SevenTiedAt
namespace Go.Proofs.YtjfjflffmpioaaaDoor
namespace aggParts
open Go.ChangeShapes Go.WideShapes Go.ChangeAt Go.RowKit
open Go.ChangeMaps (open_string shut_string)
set_option linter.unusedVariables false
set_option linter.unusedSimpArgs false

theorem own : ownKnob Tryd.prog.godebug = none := by kernel_rfl

theorem laidOut : laidOutB Tryd.prog = true := by kernel_rfl

set_option maxRecDepth 100000 in
set_option maxHeartbeats 8000000 in
/-- No samples. -/
theorem walk_none (a0 a2 : Int) (a : Option Addr) (cap : Nat) (z : List (Int × Int)) (w : World) (h : ANamesAt w) (hz : SampAt w a 0 cap z) (k : Int) (hk : kok k)
    (r : Int) (hr : a0 % 7 = r) (ht : a0.tmod 7 = r) (hkr : 1 + r = k) (hr0 : 0 ≤ r) (hr6 : r ≤ 6) (ha0 : 0 ≤ a0 ∧ a0 ≤ 255) (ha2 : 0 ≤ a2 ∧ a2 ≤ 255) :
    Calls Tryd.prog 7 #[.int .u8 a0, .slice a 0 cap, .int .u8 a2] w fun e w' => e = .returned (.bool true) ∧ Below w.heap.size w w' := by
  have H := Lib.hid h
  have HZ := Lib.hid hz
  have HK := Lib.hid hk
  have hz0 : z = [] := List.eq_nil_of_length_eq_zero hz.1
  subst hz0
  obtain ⟨ha01, ha02⟩ := ha0
  obtain ⟨ha21, ha22⟩ := ha2
  have HV := Lib.hid (valK_nil k)
  have HI := Lib.hid (show isK k [] = false from by unfold isK; simp)
  have hmin : min (0 : Int) 40 = 0 := by omega
  clear h hz hk
  go_enter Tryd.func7, Tryd.ntmps7
  go_wp2_with fail
  try rw [hkr]
  refine (anew_ok k _ HK.out).mono ?_
  rintro e W1 ⟨sb, rfl, hsb, S1, B1⟩
  have HSB := Lib.hid hsb
  clear hsb
  go_wp2
  go_loopw [12] (fun i wr => i = .int .i64 0 ∧ wr = W1) (fun i _ => 0)
  case atStart => exact ⟨rfl, rfl⟩
  case round =>
    obtain ⟨rfl, rfl⟩ := hrel
    go_wp2_with fail
    refine (copy_st sb k _ _ HK.out S1).mono ?_
    rintro e W2 ⟨tb, rfl, htb, T2, b2⟩
    have S2 := S1.keepB b2
    have B2 := bel_gbn B1 B1.size (gb_below b2)
    clear S1 B1 b2 htb
    go_wp2
    go_loopw [16] (fun i wr => i = .int .i64 0 ∧ wr = W2) (fun i _ => 0)
    case atStart => exact ⟨rfl, rfl⟩
    case round =>
      obtain ⟨rfl, rfl⟩ := hrel
      go_wp2
      go_loopw [14, 15, 17] (fun v m i wx => v = .slice none 0 0 ∧ m = .bool true ∧ i = .int .i64 (-1) ∧ wx = wr) (fun _ _ i _ => 0)
      case atStart => exact ⟨rfl, rfl, rfl, rfl⟩
      case round =>
        obtain ⟨rfl, rfl, rfl, rfl⟩ := hrel
        go_wp2_with fail
        refine (value_st tb k _ _ HK.out T2 (by simp)).mono ?_
        rintro e W3 ⟨rfl, b3⟩
        have S3 := S2.keepB b3
        have T3 := T2.keepB b3
        have B3 := bel_gbn B2 B2.size (gb_below b3)
        clear S2 T2 B2 b3
        rw [HV.out, show decide ([] ≠ ([] : List Int)) = false from by simp]
        unfold tell
        obtain ⟨a1, hs1, L1⟩ := samp_to HZ.out 0 (by omega)
        have HL1 := Lib.hid L1
        rw [show ((0 : Nat) : Int) = 0 from rfl] at hs1
        clear L1
        go_wp2_with fail
        try clear hs1
        refine (fold_any k a1 0 cap (([] : List (Int × Int)).take 0) _ (HL1.out.keep B3) (by omega)).mono ?_
        rintro e W4 ⟨rfl, b4⟩
        have S4 := S3.keepB b4
        have T4 := T3.keepB b4
        have B4 := bel_gbn B3 B3.size (gb_below b4)
        clear S3 T3 B3 b4
        rw [show valsOf (([] : List (Int × Int)).take 0) = [] from rfl, HV.out, HI.out]
        unfold tell
        go_wp2_with fail
        refine (fold_any k none 0 0 [] _ (SampAt.nil _) (by omega)).mono ?_
        rintro e WA ⟨rfl, b5⟩
        have SA := S4.keepB b5
        have TA := T4.keepB b5
        have BA := bel_gbn B4 B4.size (gb_below b5)
        clear S4 T4 B4 b5
        rw [show valsOf ([] : List (Int × Int)) = [] from rfl, HV.out, HI.out]
        unfold tell
        rcases kinds HK.out with rfl | rfl | rfl | rfl | rfl | rfl | rfl
        all_goals
          go_wp2_with fail
          refine (len_st sb _ _ _ HK.out SA).mono ?_
          rintro e w' ⟨rfl, rfl⟩
          rw [show ((([] : List Int).length : Nat) : Int) = 0 from rfl]
          go_wp2_with fail
          refine (len_st tb _ _ _ HK.out TA).mono ?_
          rintro e w' ⟨rfl, rfl⟩
          rw [show ((([] : List Int).length : Nat) : Int) = 0 from rfl]
          go_wp2_with fail
          refine (aknown_any _ (H.out.below BA)).mono ?_
          rintro e W6 ⟨rfl, b6⟩
          have B6 := bel_gbn BA BA.size (gb_below b6)
          go_wp2
          go_ret
          exact ⟨rfl, B6⟩

theorem walk (a0 : Int) (a1 : Option Addr) (len1 cap1 : Nat) (z1 : List (Int × Int)) (a2 : Int) (w : World) (h : ANamesAt w) (w0 : (Lit.int .u8 a0).wf = true) (w1 : SampAt w a1 len1 cap1 z1) (w2 : (Lit.int .u8 a2).wf = true) :
    Calls Tryd.prog 7 #[.int .u8 a0, .slice a1 len1 cap1, .int .u8 a2] w fun e w' => e = .returned (.bool true) ∧ Below w.heap.size w w' := by
  have b0 := bounds_u8 w0
  have b2 := bounds_u8 w2
  have hr1 : 0 ≤ a0 % 7 := by omega
  have hr2 : a0 % 7 ≤ 6 := by omega
  have ht : a0.tmod 7 = a0 % 7 := Int.tmod_eq_emod_of_nonneg b0.1
  by_cases h0 : len1 = 0
  · subst h0
    exact walk_none a0 a2 a1 cap1 z1 w h w1 (1 + a0 % 7) ⟨by omega, by omega⟩ _ rfl ht rfl hr1 hr2 b0 b2
  · obtain ⟨n, hn, hn1, hn2, hn3⟩ : ∃ n : Nat, min (len1 : Int) 40 = (n : Int) ∧ n ≤ len1 ∧ n ≤ 40 ∧ 0 < n := ⟨min len1 40, by omega, by omega, by omega, by omega⟩
    have hq0 : 0 ≤ a2 % ((n : Int) + 1) := Int.emod_nonneg _ (by omega)
    have hq1 : a2 % ((n : Int) + 1) < (n : Int) + 1 := Int.emod_lt_of_pos _ (by omega)
    obtain ⟨c, hc⟩ : ∃ c : Nat, a2 % ((n : Int) + 1) = (c : Int) := ⟨(a2 % ((n : Int) + 1)).toNat, by omega⟩
    have ht2 : a2.tmod ((n : Int) + 1) = (c : Int) := by rw [Int.tmod_eq_emod_of_nonneg b2.1]; exact hc
    exact walk1 a0 a2 a1 len1 cap1 z1 w h w1 (1 + a0 % 7) n c ⟨by omega, by omega⟩ hn1 hn2 (by omega) hn _ rfl ht rfl hr1 hr2 b0 b2 ⟨hn3, hc, ht2⟩

set_option maxRecDepth 100000 in
theorem lifted (os : Os) (started : os.Started) (H : Type) (enc : TypeId × Value → H) :
    ReturnsInHanded {} Tryd.checked os 7 .any (fun w args => (Rows.aggPartsSpec.pre enc Tryd.prog Tryd.f7 [] false w args ∧ laidMetH Tryd.prog laidL w) ∧ sizedMet enc Tryd.prog Tryd.f7 (OpenSpec.ofChange Rows.aggPartsSpec) false w args)
      (Rows.aggPartsSpec.post enc Tryd.prog Tryd.f7 false true false false) := by
  refine returnsInHanded_of_change_and (C := Tryd.checked) (X := fun w _ => laidMetH Tryd.prog laidL w) (fun _ _ _ hh h => h.of_heap hh) own started (by kernel_rfl) Tryd.func7
    (ChangeSpec.witness_shaped (enc := enc) (C := Tryd.checked) (os := os) (X := fun w _ => laidMetH Tryd.prog laidL w) false (World.laidAll Tryd.prog os laidL) #[.int .u8 0, .slice none 0 0, .int .u8 0] 8 (World.laidAll_os _ _ _) (door_shape os _) (by kernel_rfl) (by kernel_rfl) (by kernel_rfl) (door_met os _)) ?_
  intro W base args ds gs before hval0 hW _ _ hL _
  have hval : ∀ (j : Nat) t v, Tryd.f7.params[j]? = some t → args[j]? = some v → Value.okWide Tryd.prog W .any base t v := hval0
  have hW' := hW
  obtain ⟨p, q, hA0, hV, rfl, hfz, hnd⟩ := hW
  have hA : DataW.TrodAll enc Tryd.prog W 0 (fun _ => true) true Tryd.f7.params.toList args.toList ds p := hA0
  rw [Tryd.params7] at hA hval
  obtain ⟨v0, vs0, d0, ds0, p0, q0, hargs, rfl, rfl, h0, r0⟩ := trodAll_cons hA
  obtain ⟨v1, vs1, d1, ds1, p1, q1, rfl, rfl, rfl, h1, r1⟩ := trodAll_cons r0
  obtain ⟨v2, vs2, d2, ds2, p2, q2, rfl, rfl, rfl, h2, r2⟩ := trodAll_cons r1
  obtain ⟨rfl, rfl, rfl⟩ := trodAll_nil r2
  obtain rfl : args = #[v0, v1, v2] := by cases args; simp_all
  obtain ⟨rfl, rfl⟩ := trodVars_none hV
  obtain ⟨a0, rfl, rfl, rfl, w0⟩ := open_int Tryd.underlying5 (hval 0 5 v0 rfl rfl) h0
  obtain ⟨a1, len1, cap1, rfl⟩ := okWide_slice Tryd.underlying31 (hval 1 31 v1 rfl rfl)
  have k1 := h1
  have lt1 : ∀ x ∈ p1, x.block < W.heap.size := by obtain ⟨m, hm⟩ := k1; exact DataW.trod_lt m _ _ _ hm
  obtain ⟨z1, w1⟩ := open_samps h1
  obtain ⟨a2, rfl, rfl, rfl, w2⟩ := open_int Tryd.underlying5 (hval 2 5 v2 rfl rfl) h2
  clear hA0 hval0
  refine (walk a0 a1 len1 cap1 z1 a2 W (names_of_laid hL) w0 w1 w2).mono fun e W' ⟨he, bel⟩ => ?_
  subst he
  exact ⟨_, rfl, _, _, _, [], _, [], hW', trodAll_mk1 (shut_bool Tryd.underlying4 _), (trodAll_cons_mk (shut_int Tryd.underlying5 w0) (trodAll_cons_mk (Below.trod laidOut (by kernel_rfl) (of_decide_eq_true (by kernel_rfl)) k1 bel lt1) (trodAll_cons_mk (shut_int Tryd.underlying5 w2) trodAll_mk0))), rfl, bel.frame _, fun h => by cases h⟩

theorem over : Rows.aggPartsRow.holds Tryd.pinned (OpenSpec.ofChange Rows.aggPartsSpec) :=
  OpenClaim.holds_of_wide 7 Tryd.f7 rfl rfl rfl rfl rfl rfl rfl ⟨rfl, rfl, rfl, rfl, rfl⟩ rfl rfl rfl rfl rfl (by kernel_rfl) Tryd.func7 (by kernel_rfl)
    (of_decide_eq_true (by kernel_rfl)) (by unfold Func.isWrapper; first | (rw [if_pos (by decide +kernel)]; kernel_rfl) | (rw [if_neg (by decide +kernel)]; exact ⟨rfl, rfl⟩))
    (fun os started H enc _ => lifted os started H enc)

theorem proved : Rows.AggPartsCardSaid :=
  Claim7.holds_tied_plain_at .later [] Rows.aggPartsCard.laidKinds true Rows.aggPartsCard.stood.harness false
    over (fun _ h => by cases h) (by kernel_rfl) (fun _ h => by cases h) aggParts_row_tie rfl ⟨rfl, rfl⟩ (by kernel_rfl) rfl
    (fun f fn hf hfn => by
      obtain rfl : f = 7 := Option.some.inj ((show Tryd.prog.funcNamed "tachograph/tachographlaw06.AggParts" = some 7 by kernel_rfl).symm.trans hf) |>.symm
      obtain rfl : fn = Tryd.f7 := (Option.some.inj (Tryd.func7.symm.trans hfn)).symm
      exact ⟨by kernel_rfl, fun j t ht => by
        rw [Tryd.params7] at ht
        have hm : t ∈ [5, 31, 5] := by simpa using Array.mem_of_getElem? ht
        have hall : ([5, 31, 5].all fun u => !Tryd.prog.wantsStandIn u) = true := by kernel_rfl
        exact (show Tryd.prog.wantsStandIn t = false by simpa using List.all_eq_true.1 hall t hm)⟩)
    (by kernel_rfl)
end aggParts
theorem aggParts_holds : Rows.AggPartsCardSaid := aggParts.proved
#print axioms aggParts_holds
end Go.Proofs.YtjfjflffmpioaaaDoor
