/-
  The statement 'AggCounts' of layer 6: the counts of all buckets are together as many as the samples; the least of all buckets' least is the least of all; so is the greatest.
  No condition on the arguments; the tables (the kinds' names, and Go's own for texts) are as the program's text lays them (the card ties that).
-/
import Derived.Test.YtjfjflffmpioaaaDoorAKnown
import Derived.Test.YtjfjflffmpioaaaDoorALaid
import Derived.Test.YtjfjflffmpioaaaDoorTie
import Derived.Test.YtjfjflffmpioaaaDoorCards
import Derived.Test.YtjfjflffmpioaaaDoorABig
import Derived.ShutString
import Derived.ChangeOld
import Derived.SevenTiedAt
namespace Go.Proofs.YtjfjflffmpioaaaDoor
namespace aggCounts
open Go.ChangeShapes Go.WideShapes Go.ChangeAt Go.RowKit
open Go.ChangeMaps (open_string shut_string)
set_option linter.unusedVariables false
set_option linter.unusedSimpArgs false

theorem own : ownKnob Tryd.prog.godebug = none := by kernel_rfl

theorem laidOut : laidOutB Tryd.prog = true := by kernel_rfl

set_option maxRecDepth 100000 in
set_option maxHeartbeats 8000000 in
theorem walk0 (x : Int × Int) (a : Option Addr) (len cap : Nat) (z : List (Int × Int)) (w : World) (h : ANamesAt w) (hx0 : 0 ≤ x.1 ∧ x.1 ≤ 255) (hx1 : 0 ≤ x.2 ∧ x.2 ≤ 255) (hz : SampAt w a len cap z) :
    Calls Tryd.prog 10 #[.agg #[.int .u8 x.1, .int .u8 x.2], .slice a len cap] w fun e w' => e = .returned (.bool true) ∧ Below w.heap.size w w' := by
  obtain ⟨x0, x1⟩ := x
  simp only at *
  obtain ⟨r, hr⟩ : ∃ r, x1 % (1 + x0) = r := ⟨_, rfl⟩
  have ht : x1.tmod (1 + x0) = r := by rw [Int.tmod_eq_emod_of_nonneg hx1.1]; exact hr
  have HR := Lib.hid (st_size hx0 hx1 hr)
  obtain ⟨hx01, hx02⟩ := hx0
  obtain ⟨hx11, hx12⟩ := hx1
  have hne : 1 + x0 ≠ 0 := by omega
  have H := Lib.hid h
  have HZ := Lib.hid hz
  have hlen := hz.2.2.1
  have B0 := (Below.refl w.heap.size w).alloc (Nat.le_refl _) (.cells #[.int .u8 x0, .int .u8 x1] 50)
  clear h hz
  go_enter Tryd.func10, Tryd.ntmps10
  go_wp2
  generalize w.alloc (.cells #[.int .u8 x0, .int .u8 x1] 50) = W0 at *
  obtain ⟨sz, hsz⟩ : ∃ sz, 1 + x0 = sz := ⟨_, rfl⟩
  rw [hsz] at HR ⊢
  clear hr ht hx11 hx12 hne
  have hsz1 : 1 ≤ sz := by omega
  have hsz2 : sz ≤ 256 := by omega
  clear hsz hx01 hx02
  go_loopw [7, 8] (fun v i wr => ∃ j : Nat, j ≤ len ∧ j ≤ 60 ∧ i = .int .i64 (j : Int) ∧ wr.ownsRow w.heap.size 39 2 v (inC z j).length (smpCells (inC z j)) ∧ Below w.heap.size w wr) (fun _ i _ => len - (intOf i).toNat)
  case atStart => exact ⟨0, Nat.zero_le _, by omega, rfl, World.ownsRow_nil _ _ _ _, B0⟩
  case round =>
    clear B0
    obtain ⟨j, hj, hj60, rfl, hown, B⟩ := hrel
    by_cases hjn : j < len ∧ j < 60
    · obtain ⟨hj1, hj2⟩ := hjn
      obtain ⟨p, o, rfl, hp, y0, y1⟩ := (HZ.out.keep B).at_ j hj1
      have HY := Lib.hid (inC_yes (z := z) (j := j) (by rw [HZ.out.1]; exact hj1))
      have HN := Lib.hid (inC_no (z := z) (j := j) (by rw [HZ.out.1]; exact hj1))
      generalize tOf z j = t at *
      generalize vOf z j = v at *
      have s3 := B.size
      have hfew := inC_few z j
      by_cases hc : canT t = true
      · obtain ⟨hc1, hc2⟩ : 0 ≤ t ∧ t ≤ 1099511627776 := of_decide_eq_true hc
        have HST := Lib.hid (HY.out hc)
        clear HY HN hc
        obtain ⟨i0, hi, hz0, hz1, hz2⟩ := info_parts info_samp
        go_wp2_with (at_builtin; refine wpList_append_own _ rfl _ _ 31 rfl w.heap.size 39 i0 _ 2 16 Tryd.underlying31 hi hz0 hz1 hz2 rfl (by decide) _ _ _ rfl (hown.alloc _) ⟨wr.heap.size, 0, none⟩ 1 1 [.int .i64 t, .int .i64 v] rfl rfl (two_cells _ _ _ _) (smp_one _ _) (by unfold maxLen; omega) (by omega) (by simp; omega) ?_)
        intro v' W5 hown5 g5 _
        have B5 := (B.alloc s3 (.cells #[.int .i64 t, .int .i64 v] 39)).grown g5 (by simp; omega) (fun k hk => (hown.lt k hk).1)
        clear hown g5 hi hz0 hz1 hz2 y0 y1 B s3
        go_wp2
        go_roundw
        case rel => exact ⟨j + 1, by omega, by omega, by go_num, by rw [HST.out, List.length_append, List.length_singleton, smpCells_snoc]; exact hown5, B5⟩
        case measure => (simp [intOf] <;> omega)
      · have hc' : canT t = false := by simpa using hc
        have HST := Lib.hid (HN.out hc')
        have hc3 : ¬ (0 ≤ t ∧ t ≤ 1099511627776) := of_decide_eq_false hc'
        clear HY HN hc hc'
        by_cases hneg : 0 ≤ t
        · have hbig : ¬ t ≤ 1099511627776 := by omega
          clear hc3
          go_wp2
          go_roundw
          case rel => exact ⟨j + 1, by omega, by omega, by go_num, by rw [HST.out]; exact hown, B⟩
          case measure => (simp [intOf] <;> omega)
        · clear hc3
          go_wp2
          go_roundw
          case rel => exact ⟨j + 1, by omega, by omega, by go_num, by rw [HST.out]; exact hown, B⟩
          case measure => (simp [intOf] <;> omega)
    · by_cases hj1 : j < len
      · have hj2 : ¬ ((j : Int) < 60) := by omega
        have hj1' : (j : Int) < (len : Int) := by omega
        obtain ⟨ad, cp, rfl, LI⟩ := row_samp (inC_64 HZ.out.2.2.2.1 j) (Nat.le_trans (inC_few z j) (by omega)) hown
        have hfew := inC_few z j
        have h64 := inC_64 HZ.out.2.2.2.1 j
        have hok := inC_ok z j
        generalize inC z j = L at *
        obtain ⟨m, hm⟩ : ∃ m, L.length = m := ⟨_, rfl⟩
        rw [hm] at LI ⊢
        have hm60 : m ≤ 60 := by omega
        have HM := Lib.hid hm
        have HLI := Lib.hid (show ∀ W, Below wr.heap.size wr W → SampAt W ad m cp L from fun W hW => LI.keep hW)
        have HS4 := Lib.hid (buckL64 (k := 4) (size := sz) (align := r) h64 (by omega))
        have HS2 := Lib.hid (buckL64 (k := 2) (size := sz) (align := r) h64 (by omega))
        have HS3 := Lib.hid (buckL64 (k := 3) (size := sz) (align := r) h64 (by omega))
        have HF4 := Lib.hid (buck_few 4 sz r L)
        have HF2 := Lib.hid (buck_few 2 sz r L)
        have HF3 := Lib.hid (buck_few 3 sz r L)
        have HCF := Lib.hid (fun j hj => count_few (size := sz) (align := r) (z := L) j hj)
        have HEN := Lib.hid (buck_ends sz r L)
        have HSU := Lib.hid (buck_count sz r L)
        have HB4 := Lib.hid (buckA_ok (k := 4) (l := L) ⟨by omega, by omega⟩ HR.out hok)
        have HB2 := Lib.hid (buckA_ok (k := 2) (l := L) ⟨by omega, by omega⟩ HR.out hok)
        have HB3 := Lib.hid (buckA_ok (k := 3) (l := L) ⟨by omega, by omega⟩ HR.out hok)
        have BW := Lib.hid B
        clear hm LI hfew h64 hok hown hjn
        go_wp2_with fail
        refine (buckets_any 4 sz r ad m cp L _ (HLI.out _ (Below.refl _ _)) (by omega)).mono ?_
        rintro e W1 ⟨v1, rfl, o1, b1⟩
        rw [HB4.out] at o1
        have B1 := b1
        obtain ⟨ad1, cp1, rfl, L1⟩ := row_samp HS4.out (by have := HF4.out; rw [HM.out] at this; omega) o1
        clear o1 b1
        obtain ⟨m4, hm4⟩ : ∃ m4, (buckL 4 sz r L).length = m4 := ⟨_, rfl⟩
        rw [hm4] at L1 ⊢
        have hm460 : m4 ≤ 60 := by have := HF4.out; rw [HM.out, hm4] at this; omega
        have HM4 := Lib.hid hm4
        have HL1 := Lib.hid L1
        clear hm4 L1 B
        go_wp2
        go_loopw [9, 11] (fun s i wx => ∃ q : Nat, q ≤ m4 ∧ i = .int .i64 (q : Int) ∧ s = .int .i64 (((valsOf (buckL 4 sz r L)).take q).sum) ∧ 0 ≤ ((valsOf (buckL 4 sz r L)).take q).sum ∧ ((valsOf (buckL 4 sz r L)).take q).sum ≤ 60 * (q : Int) ∧ wx = W1) (fun _ i _ => m4 - (intOf i).toNat)
        case atStart => exact ⟨0, Nat.zero_le _, rfl, rfl, by simp, by simp, rfl⟩
        case round =>
          obtain ⟨q, hq, rfl, rfl, hs0, hs1, rfl⟩ := hrel
          by_cases hqm : q < m4
          · obtain ⟨p, o, rfl, hp, y0, y1⟩ := HL1.out.at_ q hqm
            have hcf := HCF.out q (by rw [HM4.out]; exact hqm)
            rw [HM.out] at hcf
            have hst := sum_step (buckL 4 sz r L) q (by rw [HM4.out]; exact hqm)
            generalize vOf (buckL 4 sz r L) q = v at *
            obtain ⟨hcf1, hcf2⟩ := hcf
            have HST := Lib.hid hst
            obtain ⟨s, hs⟩ : ∃ s, ((valsOf (buckL 4 sz r L)).take q).sum = s := ⟨_, rfl⟩
            rw [hs] at hs0 hs1 HST ⊢
            clear hst hs y0
            go_wp2
            go_roundw
            case rel => exact ⟨q + 1, by omega, by go_num, by rw [HST.out], by rw [HST.out]; omega, by rw [HST.out]; omega, by trivial⟩
            case measure => (simp [intOf] <;> omega)
          · obtain rfl : q = m4 := by omega
            have hall : ((valsOf (buckL 4 sz r L)).take q).sum = (m : Int) := by rw [List.take_of_length_le (by rw [valsOf_len, HM4.out]; exact Nat.le_refl _), HSU.out, HM.out]
            rw [hall]
            clear hs0 hs1 hall hqm
            go_wp2_with fail
            refine (buckets_any 2 sz r ad m cp L _ (HLI.out _ B1) (by omega)).mono ?_
            rintro e W2 ⟨v2, rfl, o2, b2⟩
            rw [HB2.out] at o2
            have B2 := B1.trans (b2.mono B1.size)
            obtain ⟨ad2, cp2, rfl, L2⟩ := row_samp HS2.out (by have := HF2.out; rw [HM.out] at this; omega) o2
            clear o2 b2
            go_wp2_with fail
            refine (fold_any 2 ad2 _ cp2 _ _ L2 (by have := HF2.out; rw [HM.out] at this; omega)).mono ?_
            rintro e W3 ⟨rfl, b3⟩
            have B3 := B2.trans (b3.mono B2.size)
            rw [HEN.out.1, HEN.out.2.2]
            clear L2 b3 B2
            obtain ⟨u2, hu2⟩ : ∃ u, valK 2 (valsOf L) = u := ⟨_, rfl⟩
            obtain ⟨y2, hy2⟩ : ∃ y, isK 2 (valsOf L) = y := ⟨_, rfl⟩
            rw [hu2, hy2]
            have HU2 := Lib.hid hu2
            have HY2 := Lib.hid hy2
            clear hu2 hy2
            unfold tell
            go_wp2_with fail
            refine (fold_any 2 ad m cp L _ (HLI.out _ B3) (by omega)).mono ?_
            rintro e W4 ⟨rfl, b4⟩
            have B4 := B3.trans (b4.mono B3.size)
            rw [HU2.out, HY2.out]
            clear b4 B3
            unfold tell
            go_wp2_with fail
            refine (buckets_any 3 sz r ad m cp L _ (HLI.out _ B4) (by omega)).mono ?_
            rintro e W5 ⟨v5, rfl, o5, b5⟩
            rw [HB3.out] at o5
            have B5 := B4.trans (b5.mono B4.size)
            obtain ⟨ad5, cp5, rfl, L5⟩ := row_samp HS3.out (by have := HF3.out; rw [HM.out] at this; omega) o5
            clear o5 b5 B4
            go_wp2_with fail
            refine (fold_any 3 ad5 _ cp5 _ _ L5 (by have := HF3.out; rw [HM.out] at this; omega)).mono ?_
            rintro e W6 ⟨rfl, b6⟩
            have B6 := B5.trans (b6.mono B5.size)
            rw [HEN.out.2.1]
            clear L5 b6 B5
            obtain ⟨u3, hu3⟩ : ∃ u, valK 3 (valsOf L) = u := ⟨_, rfl⟩
            rw [hu3]
            have HU3 := Lib.hid hu3
            clear hu3
            generalize isK 3 (valsOf (buckL 3 sz r L)) = y3 at *
            unfold tell
            go_wp2_with fail
            refine (fold_any 3 ad m cp L _ (HLI.out _ B6) (by omega)).mono ?_
            rintro e W7 ⟨rfl, b7⟩
            have B7 := B6.trans (b7.mono B6.size)
            rw [HU3.out]
            clear b7 B6
            generalize isK 3 (valsOf L) = y4 at *
            unfold tell
            have tmm : ((m : Int) == (m : Int)) = true := by simp
            have tu2 : (u2 == u2) = true := by simp
            have tu3 : (u3 == u3) = true := by simp
            have ty2 : (y2 == y2) = true := by simp
            have BF := BW.out.trans (B7.mono BW.out.size)
            cases y2
            all_goals
              go_wp2_with fail
              refine (aknown_any _ (H.out.below BF)).mono ?_
              rintro e W8 ⟨rfl, b8⟩
              have B8 := bel_gbn BF BF.size (gb_below b8)
              go_wp2
              go_ret
              exact ⟨rfl, B8⟩
      · have hj1' : ¬ ((j : Int) < (len : Int)) := by omega
        clear hj1
        obtain ⟨ad, cp, rfl, LI⟩ := row_samp (inC_64 HZ.out.2.2.2.1 j) (Nat.le_trans (inC_few z j) (by omega)) hown
        have hfew := inC_few z j
        have h64 := inC_64 HZ.out.2.2.2.1 j
        have hok := inC_ok z j
        generalize inC z j = L at *
        obtain ⟨m, hm⟩ : ∃ m, L.length = m := ⟨_, rfl⟩
        rw [hm] at LI ⊢
        have hm60 : m ≤ 60 := by omega
        have HM := Lib.hid hm
        have HLI := Lib.hid (show ∀ W, Below wr.heap.size wr W → SampAt W ad m cp L from fun W hW => LI.keep hW)
        have HS4 := Lib.hid (buckL64 (k := 4) (size := sz) (align := r) h64 (by omega))
        have HS2 := Lib.hid (buckL64 (k := 2) (size := sz) (align := r) h64 (by omega))
        have HS3 := Lib.hid (buckL64 (k := 3) (size := sz) (align := r) h64 (by omega))
        have HF4 := Lib.hid (buck_few 4 sz r L)
        have HF2 := Lib.hid (buck_few 2 sz r L)
        have HF3 := Lib.hid (buck_few 3 sz r L)
        have HCF := Lib.hid (fun j hj => count_few (size := sz) (align := r) (z := L) j hj)
        have HEN := Lib.hid (buck_ends sz r L)
        have HSU := Lib.hid (buck_count sz r L)
        have HB4 := Lib.hid (buckA_ok (k := 4) (l := L) ⟨by omega, by omega⟩ HR.out hok)
        have HB2 := Lib.hid (buckA_ok (k := 2) (l := L) ⟨by omega, by omega⟩ HR.out hok)
        have HB3 := Lib.hid (buckA_ok (k := 3) (l := L) ⟨by omega, by omega⟩ HR.out hok)
        have BW := Lib.hid B
        clear hm LI hfew h64 hok hown hjn
        go_wp2_with fail
        refine (buckets_any 4 sz r ad m cp L _ (HLI.out _ (Below.refl _ _)) (by omega)).mono ?_
        rintro e W1 ⟨v1, rfl, o1, b1⟩
        rw [HB4.out] at o1
        have B1 := b1
        obtain ⟨ad1, cp1, rfl, L1⟩ := row_samp HS4.out (by have := HF4.out; rw [HM.out] at this; omega) o1
        clear o1 b1
        obtain ⟨m4, hm4⟩ : ∃ m4, (buckL 4 sz r L).length = m4 := ⟨_, rfl⟩
        rw [hm4] at L1 ⊢
        have hm460 : m4 ≤ 60 := by have := HF4.out; rw [HM.out, hm4] at this; omega
        have HM4 := Lib.hid hm4
        have HL1 := Lib.hid L1
        clear hm4 L1 B
        go_wp2
        go_loopw [9, 11] (fun s i wx => ∃ q : Nat, q ≤ m4 ∧ i = .int .i64 (q : Int) ∧ s = .int .i64 (((valsOf (buckL 4 sz r L)).take q).sum) ∧ 0 ≤ ((valsOf (buckL 4 sz r L)).take q).sum ∧ ((valsOf (buckL 4 sz r L)).take q).sum ≤ 60 * (q : Int) ∧ wx = W1) (fun _ i _ => m4 - (intOf i).toNat)
        case atStart => exact ⟨0, Nat.zero_le _, rfl, rfl, by simp, by simp, rfl⟩
        case round =>
          obtain ⟨q, hq, rfl, rfl, hs0, hs1, rfl⟩ := hrel
          by_cases hqm : q < m4
          · obtain ⟨p, o, rfl, hp, y0, y1⟩ := HL1.out.at_ q hqm
            have hcf := HCF.out q (by rw [HM4.out]; exact hqm)
            rw [HM.out] at hcf
            have hst := sum_step (buckL 4 sz r L) q (by rw [HM4.out]; exact hqm)
            generalize vOf (buckL 4 sz r L) q = v at *
            obtain ⟨hcf1, hcf2⟩ := hcf
            have HST := Lib.hid hst
            obtain ⟨s, hs⟩ : ∃ s, ((valsOf (buckL 4 sz r L)).take q).sum = s := ⟨_, rfl⟩
            rw [hs] at hs0 hs1 HST ⊢
            clear hst hs y0
            go_wp2
            go_roundw
            case rel => exact ⟨q + 1, by omega, by go_num, by rw [HST.out], by rw [HST.out]; omega, by rw [HST.out]; omega, by trivial⟩
            case measure => (simp [intOf] <;> omega)
          · obtain rfl : q = m4 := by omega
            have hall : ((valsOf (buckL 4 sz r L)).take q).sum = (m : Int) := by rw [List.take_of_length_le (by rw [valsOf_len, HM4.out]; exact Nat.le_refl _), HSU.out, HM.out]
            rw [hall]
            clear hs0 hs1 hall hqm
            go_wp2_with fail
            refine (buckets_any 2 sz r ad m cp L _ (HLI.out _ B1) (by omega)).mono ?_
            rintro e W2 ⟨v2, rfl, o2, b2⟩
            rw [HB2.out] at o2
            have B2 := B1.trans (b2.mono B1.size)
            obtain ⟨ad2, cp2, rfl, L2⟩ := row_samp HS2.out (by have := HF2.out; rw [HM.out] at this; omega) o2
            clear o2 b2
            go_wp2_with fail
            refine (fold_any 2 ad2 _ cp2 _ _ L2 (by have := HF2.out; rw [HM.out] at this; omega)).mono ?_
            rintro e W3 ⟨rfl, b3⟩
            have B3 := B2.trans (b3.mono B2.size)
            rw [HEN.out.1, HEN.out.2.2]
            clear L2 b3 B2
            obtain ⟨u2, hu2⟩ : ∃ u, valK 2 (valsOf L) = u := ⟨_, rfl⟩
            obtain ⟨y2, hy2⟩ : ∃ y, isK 2 (valsOf L) = y := ⟨_, rfl⟩
            rw [hu2, hy2]
            have HU2 := Lib.hid hu2
            have HY2 := Lib.hid hy2
            clear hu2 hy2
            unfold tell
            go_wp2_with fail
            refine (fold_any 2 ad m cp L _ (HLI.out _ B3) (by omega)).mono ?_
            rintro e W4 ⟨rfl, b4⟩
            have B4 := B3.trans (b4.mono B3.size)
            rw [HU2.out, HY2.out]
            clear b4 B3
            unfold tell
            go_wp2_with fail
            refine (buckets_any 3 sz r ad m cp L _ (HLI.out _ B4) (by omega)).mono ?_
            rintro e W5 ⟨v5, rfl, o5, b5⟩
            rw [HB3.out] at o5
            have B5 := B4.trans (b5.mono B4.size)
            obtain ⟨ad5, cp5, rfl, L5⟩ := row_samp HS3.out (by have := HF3.out; rw [HM.out] at this; omega) o5
            clear o5 b5 B4
            go_wp2_with fail
            refine (fold_any 3 ad5 _ cp5 _ _ L5 (by have := HF3.out; rw [HM.out] at this; omega)).mono ?_
            rintro e W6 ⟨rfl, b6⟩
            have B6 := B5.trans (b6.mono B5.size)
            rw [HEN.out.2.1]
            clear L5 b6 B5
            obtain ⟨u3, hu3⟩ : ∃ u, valK 3 (valsOf L) = u := ⟨_, rfl⟩
            rw [hu3]
            have HU3 := Lib.hid hu3
            clear hu3
            generalize isK 3 (valsOf (buckL 3 sz r L)) = y3 at *
            unfold tell
            go_wp2_with fail
            refine (fold_any 3 ad m cp L _ (HLI.out _ B6) (by omega)).mono ?_
            rintro e W7 ⟨rfl, b7⟩
            have B7 := B6.trans (b7.mono B6.size)
            rw [HU3.out]
            clear b7 B6
            generalize isK 3 (valsOf L) = y4 at *
            unfold tell
            have tmm : ((m : Int) == (m : Int)) = true := by simp
            have tu2 : (u2 == u2) = true := by simp
            have tu3 : (u3 == u3) = true := by simp
            have ty2 : (y2 == y2) = true := by simp
            have BF := BW.out.trans (B7.mono BW.out.size)
            cases y2
            all_goals
              go_wp2_with fail
              refine (aknown_any _ (H.out.below BF)).mono ?_
              rintro e W8 ⟨rfl, b8⟩
              have B8 := bel_gbn BF BF.size (gb_below b8)
              go_wp2
              go_ret
              exact ⟨rfl, B8⟩

theorem walk (a0 : Int × Int) (a1 : Option Addr) (len1 cap1 : Nat) (z1 : List (Int × Int)) (w : World) (h : ANamesAt w) (w0 : (0 ≤ a0.1 ∧ a0.1 ≤ 255) ∧ (0 ≤ a0.2 ∧ a0.2 ≤ 255)) (w1 : SampAt w a1 len1 cap1 z1) :
    Calls Tryd.prog 10 #[.agg #[.int .u8 a0.1, .int .u8 a0.2], .slice a1 len1 cap1] w fun e w' => e = .returned (.bool true) ∧ Below w.heap.size w w' := walk0 a0 a1 len1 cap1 z1 w h w0.1 w0.2 w1

set_option maxRecDepth 100000 in
theorem lifted (os : Os) (started : os.Started) (H : Type) (enc : TypeId × Value → H) :
    ReturnsInHanded {} Tryd.checked os 10 .any (fun w args => (Rows.aggCountsSpec.pre enc Tryd.prog Tryd.f10 [] false w args ∧ laidMetH Tryd.prog laidL w) ∧ sizedMet enc Tryd.prog Tryd.f10 (OpenSpec.ofChange Rows.aggCountsSpec) false w args)
      (Rows.aggCountsSpec.post enc Tryd.prog Tryd.f10 false true false false) := by
  refine returnsInHanded_of_change_and (C := Tryd.checked) (X := fun w _ => laidMetH Tryd.prog laidL w) (fun _ _ _ hh h => h.of_heap hh) own started (by kernel_rfl) Tryd.func10
    (ChangeSpec.witness_shaped (enc := enc) (C := Tryd.checked) (os := os) (X := fun w _ => laidMetH Tryd.prog laidL w) false (World.laidAll Tryd.prog os laidL) #[.agg #[.int .u8 0, .int .u8 0], .slice none 0 0] 8 (World.laidAll_os _ _ _) (door_shape os _) (by kernel_rfl) (by kernel_rfl) (by kernel_rfl) (door_met os _)) ?_
  intro W base args ds gs before hval0 hW _ _ hL _
  have hval : ∀ (j : Nat) t v, Tryd.f10.params[j]? = some t → args[j]? = some v → Value.okWide Tryd.prog W .any base t v := hval0
  have hW' := hW
  obtain ⟨p, q, hA0, hV, rfl, hfz, hnd⟩ := hW
  have hA : DataW.TrodAll enc Tryd.prog W 0 (fun _ => true) true Tryd.f10.params.toList args.toList ds p := hA0
  rw [Tryd.params10] at hA hval
  obtain ⟨v0, vs0, d0, ds0, p0, q0, hargs, rfl, rfl, h0, r0⟩ := trodAll_cons hA
  obtain ⟨v1, vs1, d1, ds1, p1, q1, rfl, rfl, rfl, h1, r1⟩ := trodAll_cons r0
  obtain ⟨rfl, rfl, rfl⟩ := trodAll_nil r1
  obtain rfl : args = #[v0, v1] := by cases args; simp_all
  obtain ⟨rfl, rfl⟩ := trodVars_none hV
  have k0 := h0
  have lt0 : ∀ x ∈ p0, x.block < W.heap.size := by obtain ⟨m, hm⟩ := k0; exact DataW.trod_lt m _ _ _ hm
  obtain ⟨a0, rfl, w0⟩ := open_arr2u8 (hval 0 50 v0 rfl rfl) h0
  obtain ⟨a1, len1, cap1, rfl⟩ := okWide_slice Tryd.underlying31 (hval 1 31 v1 rfl rfl)
  have k1 := h1
  have lt1 : ∀ x ∈ p1, x.block < W.heap.size := by obtain ⟨m, hm⟩ := k1; exact DataW.trod_lt m _ _ _ hm
  obtain ⟨z1, w1⟩ := open_samps h1
  clear hA0 hval0
  refine (walk a0 a1 len1 cap1 z1 W (names_of_laid hL) w0 w1).mono fun e W' ⟨he, bel⟩ => ?_
  subst he
  exact ⟨_, rfl, _, _, _, [], _, [], hW', trodAll_mk1 (shut_bool Tryd.underlying4 _), (trodAll_cons_mk (Below.trod laidOut (by kernel_rfl) (of_decide_eq_true (by kernel_rfl)) k0 bel lt0) (trodAll_cons_mk (Below.trod laidOut (by kernel_rfl) (of_decide_eq_true (by kernel_rfl)) k1 bel lt1) trodAll_mk0)), rfl, bel.frame _, fun h => by cases h⟩

theorem over : Rows.aggCountsRow.holds Tryd.pinned (OpenSpec.ofChange Rows.aggCountsSpec) :=
  OpenClaim.holds_of_wide 10 Tryd.f10 rfl rfl rfl rfl rfl rfl rfl ⟨rfl, rfl, rfl, rfl, rfl⟩ rfl rfl rfl rfl rfl (by kernel_rfl) Tryd.func10 (by kernel_rfl)
    (of_decide_eq_true (by kernel_rfl)) (by unfold Func.isWrapper; first | (rw [if_pos (by decide +kernel)]; kernel_rfl) | (rw [if_neg (by decide +kernel)]; exact ⟨rfl, rfl⟩))
    (fun os started H enc _ => lifted os started H enc)

theorem proved : Rows.AggCountsCardSaid :=
  Claim7.holds_tied_plain_at .later [] Rows.aggCountsCard.laidKinds true Rows.aggCountsCard.stood.harness false
    over (fun _ h => by cases h) (by kernel_rfl) (fun _ h => by cases h) aggCounts_row_tie rfl ⟨rfl, rfl⟩ (by kernel_rfl) rfl
    (fun f fn hf hfn => by
      obtain rfl : f = 10 := Option.some.inj ((show Tryd.prog.funcNamed "tachograph/tachographlaw06.AggCounts" = some 10 by kernel_rfl).symm.trans hf) |>.symm
      obtain rfl : fn = Tryd.f10 := (Option.some.inj (Tryd.func10.symm.trans hfn)).symm
      exact ⟨by kernel_rfl, fun j t ht => by
        rw [Tryd.params10] at ht
        have hm : t ∈ [50, 31] := by simpa using Array.mem_of_getElem? ht
        have hall : ([50, 31].all fun u => !Tryd.prog.wantsStandIn u) = true := by kernel_rfl
        exact (show Tryd.prog.wantsStandIn t = false by simpa using List.all_eq_true.1 hall t hm)⟩)
    (by kernel_rfl)
end aggCounts
theorem aggCounts_holds : Rows.AggCountsCardSaid := aggCounts.proved
#print axioms aggCounts_holds
end Go.Proofs.YtjfjflffmpioaaaDoor
