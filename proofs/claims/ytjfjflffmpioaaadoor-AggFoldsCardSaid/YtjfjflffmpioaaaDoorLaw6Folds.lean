/-
  The statement 'AggFolds' of layer 6: what any numbers make by any kind, one behind the other, and at once, is as the document says.
  No condition on the arguments; the tables (the kinds' names, and Go's own for texts) are as the program's text lays them (the card ties that).
-/
import Derived.Test.YtjfjflffmpioaaaDoorAKnown
import Derived.Test.YtjfjflffmpioaaaDoorALaid
import Derived.Test.YtjfjflffmpioaaaDoorTie
import Derived.Test.YtjfjflffmpioaaaDoorCards
import Derived.Test.YtjfjflffmpioaaaDoorARFold
import Derived.Test.YtjfjflffmpioaaaDoorASize
import Derived.ShutString
import Derived.ChangeOld
import Derived.SevenTiedAt
namespace Go.Proofs.YtjfjflffmpioaaaDoor
namespace aggFolds
open Go.ChangeShapes Go.WideShapes Go.ChangeAt Go.RowKit
open Go.ChangeMaps (open_string shut_string)
set_option linter.unusedVariables false
set_option linter.unusedSimpArgs false

theorem own : ownKnob Tryd.prog.godebug = none := by kernel_rfl

theorem laidOut : laidOutB Tryd.prog = true := by kernel_rfl

set_option maxRecDepth 100000 in
set_option maxHeartbeats 4000000 in
theorem walk_ok (k : Int) (a : Option Addr) (len cap : Nat) (z : List (Int × Int)) (w : World) (h : ANamesAt w) (hz : SampAt w a len cap z) (hl : len ≤ 8796093022208) (hk : kok k) :
    Calls Tryd.prog 4 #[.int .i64 k, .slice a len cap] w fun e w' => e = .returned (.bool true) ∧ Below w.heap.size w w' := by
  have H := Lib.hid h
  have HZ := Lib.hid hz
  have HK := Lib.hid hk
  obtain ⟨n, hn⟩ : ∃ n, n = nmA k := ⟨_, rfl⟩
  have HN := Lib.hid hn
  have t4 : ¬ n.toList = [] := by rw [hn]; exact fun e => (nmA_empty k).1 e hk
  have t5 : n.toList.isEmpty = false := by simpa using t4
  clear h hz hn hk
  go_enter Tryd.func4, Tryd.ntmps4
  go_wp2_with fail
  refine (anew_ok k _ HK.out).mono ?_
  rintro e W1 ⟨c, rfl, hc, S1, B1⟩
  have HC := Lib.hid hc
  clear hc
  go_wp2_with fail
  refine (arname_any k _).mono ?_
  rintro e W2 ⟨rfl, b2⟩
  have S2 := S1.keepB b2
  have B2 := bel_gbn B1 B1.size (gb_below b2)
  clear S1 B1 b2
  rw [← HN.out]
  go_wp2_with fail
  refine (fold_any k a len cap z _ (HZ.out.keep B2) (by omega)).mono ?_
  rintro e W3 ⟨rfl, b3⟩
  have S3 := S2.keepB b3
  have B3 := bel_gbn B2 B2.size (gb_below b3)
  clear S2 B2 b3
  obtain ⟨x, hx⟩ : ∃ x, valK k (valsOf z) = x := ⟨_, rfl⟩
  obtain ⟨y, hy⟩ : ∃ y, isK k (valsOf z) = y := ⟨_, rfl⟩
  rw [hx, hy]
  have HX := Lib.hid hx
  have HY := Lib.hid hy
  clear hx hy
  unfold tell
  go_wp2_with fail
  refine (rfold_any k a len cap z _ (HZ.out.keep B3) hl).mono ?_
  rintro e W4 ⟨rfl, b4⟩
  have S4 := S3.keepB b4
  have B4 := bel_gbn B3 B3.size (gb_below b4)
  clear S3 B3 b4
  rw [HX.out, HY.out]
  unfold tell
  have txx : (x == x) = true := by simp
  go_wp2
  go_loopw [11] (fun i wr => ∃ j : Nat, j ≤ len ∧ j ≤ 60 ∧ i = .int .i64 (j : Int) ∧ StP wr c k ((valsOf z).take j) ∧ Below w.heap.size w wr) (fun i _ => len - (intOf i).toNat)
  case atStart => exact ⟨0, Nat.zero_le _, by omega, rfl, S4, B4⟩
  case round =>
    clear S4 B4
    obtain ⟨j, hj, hj60, rfl, S, B⟩ := hrel
    by_cases hjn : j < len ∧ j < 60
    · obtain ⟨hj1, hj2⟩ := hjn
      obtain ⟨p, o, rfl, hp, x0, x1⟩ := (HZ.out.keep B).at_ j hj1
      have HV := Lib.hid (vOf_in HZ.out.2.2.2.1 j)
      have HT := Lib.hid (vOf_vals z j (by rw [HZ.out.1]; exact hj1))
      generalize vOf z j = v at *
      clear x0
      go_wp2_with fail
      refine (add_st c k _ v _ HK.out S HV.out (by rw [List.length_take]; omega)).mono ?_
      rintro e W5 ⟨rfl, S5, g5⟩
      have B5 := bel_gb B B.size HC.out g5
      rw [← HT.out] at S5
      clear S B g5 x1 HT
      go_wp2_with fail
      refine (value_st c k _ _ HK.out S5 (by rw [List.length_take]; omega)).mono ?_
      rintro e W6 ⟨rfl, b6⟩
      have S6 := S5.keepB b6
      have B6 := bel_gbn B5 B5.size (gb_below b6)
      clear S5 B5 b6
      have EV := Lib.hid (show (valsOf z).take (j + 1) = valsOf (z.take (j + 1)) from by unfold valsOf; rw [List.map_take])
      have EN := Lib.hid (show isK k (valsOf (z.take (j + 1))) = decide ((valsOf z).take (j + 1) ≠ []) from by
        rw [EV.out]; unfold isK; rw [decide_eq_true (show 1 ≤ k ∧ k ≤ 7 from HK.out)]; rfl)
      have EL := Lib.hid (show (((valsOf z).take (j + 1)).length : Int) = (j : Int) + 1 from by rw [List.length_take, valsOf_len, HZ.out.1]; omega)
      obtain ⟨u, hu⟩ : ∃ u, valK k ((valsOf z).take (j + 1)) = u := ⟨_, rfl⟩
      obtain ⟨r, hr⟩ : ∃ r, decide ((valsOf z).take (j + 1) ≠ []) = r := ⟨_, rfl⟩
      rw [hu, hr]
      rw [hr] at EN
      have HU := Lib.hid (show valK k (valsOf (z.take (j + 1))) = u from by rw [← EV.out]; exact hu)
      clear hu hr
      unfold tell
      obtain ⟨a1, hs1, L1⟩ := samp_to HZ.out (j + 1) (by omega)
      have HL1 := Lib.hid L1
      rw [show ((j + 1 : Nat) : Int) = (j : Int) + 1 from by omega] at hs1
      clear L1
      have tuu : (u != u) = false := by simp
      have trr : (r != r) = false := by simp
      go_wp2_with fail
      clear hs1
      refine (rfold_any k a1 (j + 1) cap (z.take (j + 1)) _ (HL1.out.keep B6) (by omega)).mono ?_
      rintro e W7 ⟨rfl, b7⟩
      have S7 := S6.keepB b7
      have B7 := bel_gbn B6 B6.size (gb_below b7)
      clear S6 B6 b7
      rw [HU.out, EN.out]
      unfold tell
      go_wp2_with fail
      refine (len_st c k _ _ HK.out S7).mono ?_
      rintro e w' ⟨rfl, rfl⟩
      rw [EL.out]
      have tll : (((j : Int) + 1) != ((j : Int) + 1)) = false := by simp
      go_wp2
      go_roundw
      case rel => exact ⟨j + 1, by omega, by omega, by go_num, S7, B7⟩
      case measure => simp [intOf]; omega
    · clear S
      by_cases hj1 : j < len
      · have hj2 : ¬ ((j : Int) < 60) := by omega
        clear hjn
        have hj1' : (j : Int) < (len : Int) := by omega
        by_cases h60 : 60 < len
        · have h60' : (60 : Int) < (len : Int) := by omega
          clear h60
          go_wp2_with fail
          refine (aknown_any _ (H.out.below B)).mono ?_
          rintro e W6 ⟨rfl, b6⟩
          have B6 := bel_gbn B B.size (gb_below b6)
          go_wp2
          go_ret
          exact ⟨rfl, B6⟩
        · have h60' : ¬ (60 : Int) < (len : Int) := by omega
          clear h60
          cases y
          all_goals
            go_wp2_with fail
            refine (aknown_any _ (H.out.below B)).mono ?_
            rintro e W6 ⟨rfl, b6⟩
            have B6 := bel_gbn B B.size (gb_below b6)
            go_wp2
            go_ret
            exact ⟨rfl, B6⟩
      · have hj1' : ¬ ((j : Int) < (len : Int)) := by omega
        clear hjn hj1
        by_cases h60 : 60 < len
        · have h60' : (60 : Int) < (len : Int) := by omega
          clear h60
          go_wp2_with fail
          refine (aknown_any _ (H.out.below B)).mono ?_
          rintro e W6 ⟨rfl, b6⟩
          have B6 := bel_gbn B B.size (gb_below b6)
          go_wp2
          go_ret
          exact ⟨rfl, B6⟩
        · have h60' : ¬ (60 : Int) < (len : Int) := by omega
          clear h60
          cases y
          all_goals
            go_wp2_with fail
            refine (aknown_any _ (H.out.below B)).mono ?_
            rintro e W6 ⟨rfl, b6⟩
            have B6 := bel_gbn B B.size (gb_below b6)
            go_wp2
            go_ret
            exact ⟨rfl, B6⟩

set_option maxRecDepth 100000 in
set_option maxHeartbeats 4000000 in
theorem walk_no (k : Int) (a : Option Addr) (len cap : Nat) (z : List (Int × Int)) (w : World) (h : ANamesAt w) (hz : SampAt w a len cap z) (hl : len ≤ 8796093022208) (hk : ¬ kok k) :
    Calls Tryd.prog 4 #[.int .i64 k, .slice a len cap] w fun e w' => e = .returned (.bool true) ∧ Below w.heap.size w w' := by
  have H := Lib.hid h
  have HZ := Lib.hid hz
  have HK := Lib.hid hk
  have E := Lib.hid (nmA_no hk)
  have HX := Lib.hid (valK_no (k := k) (valsOf z) hk)
  have HY := Lib.hid (show isK k (valsOf z) = false from by unfold isK; rw [decide_eq_false (show ¬ (1 ≤ k ∧ k ≤ 7) from hk)]; rfl)
  clear h hz hk
  go_enter Tryd.func4, Tryd.ntmps4
  go_wp2_with fail
  refine (anew_no k _ HK.out).mono ?_
  rintro e w' ⟨rfl, rfl⟩
  go_wp2_with fail
  refine (arname_any k _).mono ?_
  rintro e W2 ⟨rfl, B2⟩
  rw [E.out]
  have t5 : (ByteArray.toList ⟨#[]⟩) = [] := by rw [Lib.toList_data]
  go_wp2_with fail
  refine (fold_any k a len cap z _ (HZ.out.keep B2) (by omega)).mono ?_
  rintro e W3 ⟨rfl, b3⟩
  have B3 := bel_gbn B2 B2.size (gb_below b3)
  clear B2 b3
  rw [HX.out, HY.out]
  unfold tell
  go_wp2_with fail
  refine (rfold_any k a len cap z _ (HZ.out.keep B3) hl).mono ?_
  rintro e W4 ⟨rfl, b4⟩
  have B := bel_gbn B3 B3.size (gb_below b4)
  clear B3 b4
  rw [HX.out, HY.out]
  unfold tell
  go_wp2
  go_loopw [11] (fun i wr => i = .int .i64 0 ∧ wr = W4) (fun i _ => 0)
  case atStart => exact ⟨rfl, rfl⟩
  case round =>
    obtain ⟨rfl, rfl⟩ := hrel
    have fin : 0 < len ∨ ¬ 0 < len := Decidable.em _
    rcases fin with h0 | h0
    · have h0' : (0 : Int) < (len : Int) := by omega
      clear h0
      by_cases h60 : (60 : Int) < (len : Int)
      all_goals
        go_wp2_with fail
        refine (aknown_any _ (H.out.below B)).mono ?_
        rintro e W6 ⟨rfl, b6⟩
        have B6 := bel_gbn B B.size (gb_below b6)
        go_wp2
        go_ret
        exact ⟨rfl, B6⟩
    · have h0' : ¬ (0 : Int) < (len : Int) := by omega
      have h60 : ¬ (60 : Int) < (len : Int) := by omega
      clear h0
      go_wp2_with fail
      refine (aknown_any _ (H.out.below B)).mono ?_
      rintro e W6 ⟨rfl, b6⟩
      have B6 := bel_gbn B B.size (gb_below b6)
      go_wp2
      go_ret
      exact ⟨rfl, B6⟩

theorem walk (a0 : Int) (a1 : Option Addr) (len1 cap1 : Nat) (z1 : List (Int × Int)) (w : World) (h : ANamesAt w) (w0 : (Lit.int .i64 a0).wf = true) (w1 : SampAt w a1 len1 cap1 z1) (e1 : len1 ≤ 8796093022208) :
    Calls Tryd.prog 4 #[.int .i64 a0, .slice a1 len1 cap1] w fun e w' => e = .returned (.bool true) ∧ Below w.heap.size w w' := by
  by_cases hk : kok a0
  · exact walk_ok a0 a1 len1 cap1 z1 w h w1 e1 hk
  · exact walk_no a0 a1 len1 cap1 z1 w h w1 e1 hk

set_option maxRecDepth 100000 in
theorem lifted (os : Os) (started : os.Started) (H : Type) (enc : TypeId × Value → H) :
    ReturnsInHanded {} Tryd.checked os 4 .any (fun w args => (Rows.aggFoldsSpec.pre enc Tryd.prog Tryd.f4 [] false w args ∧ laidMetH Tryd.prog laidL w) ∧ sizedMet enc Tryd.prog Tryd.f4 (OpenSpec.ofChange Rows.aggFoldsSpec) false w args)
      (Rows.aggFoldsSpec.post enc Tryd.prog Tryd.f4 false true false false) := by
  refine returnsInHanded_of_change_and (C := Tryd.checked) (X := fun w _ => laidMetH Tryd.prog laidL w) (fun _ _ _ hh h => h.of_heap hh) own started (by kernel_rfl) Tryd.func4
    (ChangeSpec.witness_shaped (enc := enc) (C := Tryd.checked) (os := os) (X := fun w _ => laidMetH Tryd.prog laidL w) false (World.laidAll Tryd.prog os laidL) #[.int .i64 0, .slice none 0 0] 8 (World.laidAll_os _ _ _) (door_shape os _) (by kernel_rfl) (by kernel_rfl) (by kernel_rfl) (door_met os _)) ?_
  intro W base args ds gs before hval0 hW _ hsz0 hL _
  have hval : ∀ (j : Nat) t v, Tryd.f4.params[j]? = some t → args[j]? = some v → Value.okWide Tryd.prog W .any base t v := hval0
  have hsz : (DataW.weightsEach Tryd.prog (Tryd.f4.params.toList ++ Rows.aggFoldsSpec.plain.varTypes Tryd.prog) (ds ++ gs)).all (· ≤ reachBytes) = true := hsz0
  have hW' := hW
  obtain ⟨p, q, hA0, hV, rfl, hfz, hnd⟩ := hW
  have hA : DataW.TrodAll enc Tryd.prog W 0 (fun _ => true) true Tryd.f4.params.toList args.toList ds p := hA0
  rw [Tryd.params4] at hA hval hsz
  obtain ⟨v0, vs0, d0, ds0, p0, q0, hargs, rfl, rfl, h0, r0⟩ := trodAll_cons hA
  obtain ⟨v1, vs1, d1, ds1, p1, q1, rfl, rfl, rfl, h1, r1⟩ := trodAll_cons r0
  obtain ⟨rfl, rfl, rfl⟩ := trodAll_nil r1
  obtain rfl : args = #[v0, v1] := by cases args; simp_all
  obtain ⟨rfl, rfl⟩ := trodVars_none hV
  obtain ⟨a0, rfl, rfl, rfl, w0⟩ := open_int Tryd.underlying3 (hval 0 3 v0 rfl rfl) h0
  obtain ⟨a1, len1, cap1, rfl⟩ := okWide_slice Tryd.underlying31 (hval 1 31 v1 rfl rfl)
  have k1 := h1
  have lt1 : ∀ x ∈ p1, x.block < W.heap.size := by obtain ⟨m, hm⟩ := k1; exact DataW.trod_lt m _ _ _ hm
  obtain ⟨z1, w1⟩ := open_samps h1
  have e1 := samps_reach hsz (j := 1) rfl rfl k1
  clear hA0 hval0
  refine (walk a0 a1 len1 cap1 z1 W (names_of_laid hL) w0 w1 e1).mono fun e W' ⟨he, bel⟩ => ?_
  subst he
  exact ⟨_, rfl, _, _, _, [], _, [], hW', trodAll_mk1 (shut_bool Tryd.underlying4 _), (trodAll_cons_mk (shut_int Tryd.underlying3 w0) (trodAll_cons_mk (Below.trod laidOut (by kernel_rfl) (of_decide_eq_true (by kernel_rfl)) k1 bel lt1) trodAll_mk0)), rfl, bel.frame _, fun h => by cases h⟩

theorem over : Rows.aggFoldsRow.holds Tryd.pinned (OpenSpec.ofChange Rows.aggFoldsSpec) :=
  OpenClaim.holds_of_wide 4 Tryd.f4 rfl rfl rfl rfl rfl rfl rfl ⟨rfl, rfl, rfl, rfl, rfl⟩ rfl rfl rfl rfl rfl (by kernel_rfl) Tryd.func4 (by kernel_rfl)
    (of_decide_eq_true (by kernel_rfl)) (by unfold Func.isWrapper; first | (rw [if_pos (by decide +kernel)]; kernel_rfl) | (rw [if_neg (by decide +kernel)]; exact ⟨rfl, rfl⟩))
    (fun os started H enc _ => lifted os started H enc)

theorem proved : Rows.AggFoldsCardSaid :=
  Claim7.holds_tied_plain_at .later [] Rows.aggFoldsCard.laidKinds true Rows.aggFoldsCard.stood.harness false
    over (fun _ h => by cases h) (by kernel_rfl) (fun _ h => by cases h) aggFolds_row_tie rfl ⟨rfl, rfl⟩ (by kernel_rfl) rfl
    (fun f fn hf hfn => by
      obtain rfl : f = 4 := Option.some.inj ((show Tryd.prog.funcNamed "tachograph/tachographlaw06.AggFolds" = some 4 by kernel_rfl).symm.trans hf) |>.symm
      obtain rfl : fn = Tryd.f4 := (Option.some.inj (Tryd.func4.symm.trans hfn)).symm
      exact ⟨by kernel_rfl, fun j t ht => by
        rw [Tryd.params4] at ht
        have hm : t ∈ [3, 31] := by simpa using Array.mem_of_getElem? ht
        have hall : ([3, 31].all fun u => !Tryd.prog.wantsStandIn u) = true := by kernel_rfl
        exact (show Tryd.prog.wantsStandIn t = false by simpa using List.all_eq_true.1 hall t hm)⟩)
    (by kernel_rfl)
end aggFolds
theorem aggFolds_holds : Rows.AggFoldsCardSaid := aggFolds.proved
#print axioms aggFolds_holds
end Go.Proofs.YtjfjflffmpioaaaDoor
