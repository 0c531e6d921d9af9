/-
  Contract of the document's own Fill of layer 7.
  Condition: at most 10000 samples.
-/
import Derived.Test.YtpahohnpcfgegaaTRef
namespace Go.Proofs.Ytpahohnpcfgegaa
open Go.RowKit
set_option linter.unusedVariables false
set_option linter.unusedSimpArgs false

/-- What there is ahead of the j-th one. -/
def fillT (k size align : Int) (z : List (Int × Int)) : Nat → List (Int × Int)
  | 0 => []
  | j + 1 => fillP k size align z j ++ [(tOf z j, vOf z j)]
theorem fillT_gap (k size align : Int) (z : List (Int × Int)) (i : Nat) : fillP k size align z (i + 1) = fillT k size align z (i + 1) ++ gapAt k size align z i := by
  rw [fillP_succ]; rfl
theorem fillT_all (k size align : Int) (z : List (Int × Int)) : fillT k size align z z.length = fillP k size align z z.length := by
  cases h : z.length with
  | zero => rfl
  | succ j => rw [fillT_gap, gapAt_last (by omega), List.append_nil]
theorem fillT_le (k size align : Int) (z : List (Int × Int)) (j : Nat) (h : j < z.length) : (fillT k size align z (j + 1)).length ≤ (fillP k size align z z.length).length := by
  refine Nat.le_trans ?_ (fillP_le k size align z (show j + 1 ≤ z.length from h))
  rw [fillT_gap, List.length_append]; omega

set_option maxRecDepth 100000 in
set_option maxHeartbeats 8000000 in
theorem rfill_ok (k size align : Int) (a : Option Addr) (len cap : Nat) (z : List (Int × Int)) (w : World) (h : SampAt w a len cap z) (hl : len ≤ 10000) (hf : kok k ∧ rightB size align) (hb : areB size align z) :
    Calls Try.prog 19 #[.int .i64 k, .int .i64 size, .int .i64 align, .slice a len cap] w (TellP (fillR k size align z) w) := by
  have HL := Lib.hid h.1
  have HS := Lib.hid h
  have HB := Lib.hid hb
  have HR := Lib.hid hf.2
  have hs1 := hf.2.1.1
  have hs2 := hf.2.1.2
  obtain ⟨nm, hnm⟩ : ∃ nm, nm = nmA k := ⟨_, rfl⟩
  have HN := Lib.hid hnm
  have t4 : ¬ nm.toList = [] := by rw [hnm]; exact fun e => (nmA_empty k).1 e hf.1
  have t5 : nm.toList.isEmpty = false := by simpa using t4
  have EB := Lib.hid (show 10000 < (fillP k size align z z.length).length → fillR k size align z = ([], 13) from fun hp => by unfold fillR; rw [if_pos ⟨hf, hb⟩, if_pos hp])
  have EO := Lib.hid (show (fillP k size align z z.length).length ≤ 10000 → fillR k size align z = (fillP k size align z z.length, 0) from fun hp => by unfold fillR; rw [if_pos ⟨hf, hb⟩, if_neg (by omega)])
  have H64 := Lib.hid (fillP64 h.2.2.2.1 ⟨hf, hb⟩ z.length (Nat.le_refl _))
  clear h hb hf hnm
  go_enter Try.func19, Try.ntmps19
  go_wp2_with fail
  refine (arname_any _ _).mono ?_
  rintro e W1 ⟨rfl, B1⟩
  rw [← HN.out]
  go_wp2_with fail
  refine (rrightB_any _ _ _).mono ?_
  rintro e w' ⟨rfl, rfl⟩
  rw [decide_eq_true HR.out]
  have s1 := B1.size
  have HS1 := Lib.hid (HS.out.keep B1)
  go_wp2
  go_loopw [10] (fun i wr => ∃ j : Nat, j ≤ len ∧ i = .int .i64 (j : Int) ∧ W1 = wr) (fun i _ => len - (intOf i).toNat)
  case atStart => exact ⟨0, Nat.zero_le _, rfl, rfl⟩
  case round =>
    obtain ⟨j, hj, rfl, rfl⟩ := hrel
    by_cases hjn : j < len
    · obtain ⟨p, o, ha, hp, hall⟩ := HS1.out.all (by omega)
      obtain ⟨x0, x1⟩ := hall j hjn
      subst ha
      obtain ⟨hst, hup⟩ := HB.out j (by rw [HL.out]; exact hjn)
      obtain ⟨t, ht⟩ : ∃ t, tOf z j = t := ⟨_, rfl⟩
      rw [ht] at x0 hst hup
      have HST := Lib.hid hst
      obtain ⟨h0, h1⟩ := startB_fix HR.out hst
      have h0' : ¬ t < 0 := by omega
      have h1' : ¬ (1099511627776 : Int) < t := by omega
      have tb : (t != t) = false := by simp
      by_cases hz : j = 0
      · have hj0 : ¬ (0 : Int) < (j : Int) := by omega
        have hj4 : ¬ 0 < j := by omega
        clear hall x1 ht hst hup hz
        go_wp2_with fail
        refine (rstart_any t size align _).mono ?_
        rintro e w' ⟨rfl, rfl⟩
        rw [HST.out]
        go_wp2
        go_roundw
        case rel => exact ⟨j + 1, by omega, by go_num, by trivial⟩
        case measure => simp [intOf]; omega
      · obtain ⟨i, hi⟩ : ∃ i, j = i + 1 := ⟨j - 1, by omega⟩
        have hlt := hup (by omega)
        rw [show j - 1 = i from by omega] at hlt
        obtain ⟨y0, y1⟩ := hall i (by omega)
        generalize tOf z i = u at *
        have hk1 : (j : Int) - 1 = (i : Int) := by omega
        have hkl : (i : Int) < (len : Int) := by omega
        have hkw : IntKind.i64.wrap (i : Int) = (i : Int) := IntWalk.i64_in _ ⟨by omega, by omega⟩
        have hj0 : (0 : Int) < (j : Int) := by omega
        have hj4 : 0 < j := by omega
        have hlt' : ¬ t ≤ u := by omega
        clear hall x1 y1 ht hst hup hz hi
        go_wp2_with fail
        refine (rstart_any t size align _).mono ?_
        rintro e w' ⟨rfl, rfl⟩
        rw [HST.out]
        go_wp2
        go_roundw
        case rel => exact ⟨j + 1, by omega, by go_num, by trivial⟩
        case measure => simp [intOf]; omega
    · obtain rfl : len = j := by omega
      by_cases hk : k = 1 ∨ k = 4 ∨ k = 6
      · rcases hk with rfl | rfl | rfl
        · have HU := Lib.hid (show ∀ v, emptyV 1 v = some 0 from fun v => rfl)
          go_wp2
          go_loopw [12, 13] (fun o i wr => ∃ j : Nat, j ≤ len ∧ i = .int .i64 (j : Int) ∧ wr.ownsRow w.heap.size 27 2 o (fillT 1 size align z j).length (smpCells (fillT 1 size align z j)) ∧ (fillT 1 size align z j).length ≤ 10000 ∧ Below w.heap.size w wr) (fun _ i _ => len - (intOf i).toNat)
          case atStart => exact ⟨0, Nat.zero_le _, rfl, World.ownsRow_nil _ _ _ _, by simp [fillT], B1⟩
          case round =>
            obtain ⟨j, hj, rfl, hown, hfl, B⟩ := hrel
            have s2 := B.size
            by_cases hjn : j < len
            · obtain ⟨p, o, ha, hp, hall⟩ := (HS.out.keep B).all (by omega)
              obtain ⟨x0, x1⟩ := hall j hjn
              subst ha
              have HFT := Lib.hid (fillT_le 1 size align z j (by rw [HL.out]; exact hjn))
              have HST := Lib.hid (show fillT 1 size align z (j + 1) = fillP 1 size align z j ++ [(tOf z j, vOf z j)] from rfl)
              by_cases hz : j = 0
              · have HF0 := Lib.hid (show fillP 1 size align z j = fillT 1 size align z j from by subst hz; rfl)
                have HF00 := Lib.hid (show (fillT 1 size align z j).length = 0 from by subst hz; rfl)
                obtain ⟨t, ht⟩ : ∃ t, tOf z j = t := ⟨_, rfl⟩
                obtain ⟨v, hv⟩ : ∃ v, vOf z j = v := ⟨_, rfl⟩
                rw [ht] at x0 HST
                rw [hv] at x1 HST
                rw [HF0.out] at HST
                generalize fillT 1 size align z j = F at *
                obtain ⟨i0, hi0, hz0, hz1, hz2⟩ := info_parts info_samp
                have hj0 : ¬ (0 : Int) < (j : Int) := by omega
                have hj4 : ¬ 0 < j := by omega
                clear hall ht hv hz HF0
                go_wp2_with (at_builtin; refine wpList_append_own _ rfl _ _ 22 rfl w.heap.size 27 i0 _ 2 16 Try.underlying22 hi0 hz0 hz1 hz2 rfl (by decide) _ _ _ rfl (hown.alloc _) ⟨wr.heap.size, 0, none⟩ 1 1 [.int .i64 t, .int .i64 v] rfl rfl (two_cells _ _ _ _) (smp_one _ _) (by unfold maxLen; omega) (by omega) (by simp; omega) ?_)
                intro v5 W5 o5 g5 _
                have B5 := (B.alloc s2 (.cells #[.int .i64 t, .int .i64 v] 27)).grown g5 (by simp; omega) (fun k hk => (hown.lt k hk).1)
                have o6 : W5.ownsRow w.heap.size 27 2 v5 (F ++ [(t, v)]).length (smpCells (F ++ [(t, v)])) := by
                  rw [List.length_append, List.length_singleton, smpCells_snoc]; exact o5
                have hl6 : (F ++ [(t, v)]).length = 1 := by rw [List.length_append, HF00.out]; rfl
                clear g5 hi0 hz0 hz1 hz2 x0 x1 hown o5 B s2
                generalize F ++ [(t, v)] = F8 at *
                obtain ⟨ad, cp, rfl⟩ := owns_sl o6
                have hbig' : ¬ (10000 : Int) < (F8.length : Int) := by omega
                go_wp2
                go_roundw
                case rel => exact ⟨j + 1, by omega, by go_num, by rw [HST.out]; exact o6, by rw [HST.out]; omega, B5⟩
                case measure => simp [intOf]; omega
              · obtain ⟨i, hi⟩ : ∃ i, j = i + 1 := ⟨j - 1, by omega⟩
                subst hi
                obtain ⟨y0, y1⟩ := hall i (by omega)
                have hk1 : ((i + 1 : Nat) : Int) - 1 = (i : Int) := by omega
                have hkl : (i : Int) < (len : Int) := by omega
                have hkw : IntKind.i64.wrap (i : Int) = (i : Int) := IntWalk.i64_in _ ⟨by omega, by omega⟩
                have hj0 : (0 : Int) < ((i + 1 : Nat) : Int) := by omega
                have hj4 : 0 < i + 1 := by omega
                have HGP := Lib.hid (show fillP 1 size align z (i + 1) = fillT 1 size align z (i + 1) ++ gapL size 0 (endB (tOf z i) size align) (cntG size (endB (tOf z i) size align) (tOf z (i + 1))) from by
                  rw [fillT_gap, gapAt_some (HU.out _) (by rw [HL.out]; exact hjn)])
                have HPL := Lib.hid (fillP_le 1 size align z (show i + 1 ≤ z.length by rw [HL.out]; omega))
                have HT1 := Lib.hid (startB_fix HR.out (HB.out (i + 1) (by rw [HL.out]; exact hjn)).1)
                have HSI := Lib.hid (HB.out i (by rw [HL.out]; omega)).1
                obtain ⟨t, ht⟩ : ∃ t, tOf z (i + 1) = t := ⟨_, rfl⟩
                obtain ⟨v, hv⟩ : ∃ v, vOf z (i + 1) = v := ⟨_, rfl⟩
                obtain ⟨s, hs⟩ : ∃ s, tOf z i = s := ⟨_, rfl⟩
                obtain ⟨u, hu⟩ : ∃ u, vOf z i = u := ⟨_, rfl⟩
                rw [ht] at x0 HST HGP HT1
                rw [hv] at x1 HST
                rw [hs] at y0 HGP HSI
                rw [hu] at y1
                have HTT := Lib.hid ht
                have HVV := Lib.hid hv
                have HUU := Lib.hid hu
                skip
                clear hall ht hv hs hu hz x0 x1 hk1 hkl hkw
                have hk1 : ((i + 1 : Nat) : Int) - 1 = (i : Int) := by omega
                have hkl : (i : Int) < (len : Int) := by omega
                have hkw : IntKind.i64.wrap (i : Int) = (i : Int) := IntWalk.i64_in _ ⟨by omega, by omega⟩
                go_wp2_with fail
                refine (rend_any s size align _).mono ?_
                rintro e w' ⟨rfl, rfl⟩
                have HG := Lib.hid (fun m hm => gap_step HR.out HSI.out m hm)
                generalize endB s size align = b0 at *
                generalize hFF : fillT 1 size align z (i + 1) = F0 at *
                clear hFF y0 y1
                go_wp2
                go_loopw [12, 14] (fun o b wr => ∃ m : Nat, m ≤ cntG size b0 t ∧ b = .int .i64 (b0 + (m : Int) * size) ∧ wr.ownsRow w.heap.size 27 2 o (F0 ++ gapL size 0 b0 m).length (smpCells (F0 ++ gapL size 0 b0 m)) ∧ (F0 ++ gapL size 0 b0 m).length ≤ 10000 ∧ Below w.heap.size w wr) (fun _ b _ => (t - intOf b).toNat)
                case atStart =>
                  refine ⟨0, Nat.zero_le _, ?_, ?_, ?_, B⟩
                  · simp
                  · rw [gapL_zero, List.append_nil]; exact hown
                  · rw [gapL_zero, List.append_nil]; exact hfl
                case round =>
                  clear hown hfl B s2
                  obtain ⟨m, hm, rfl, hown, hfl, B⟩ := hrel
                  have s2 := B.size
                  obtain ⟨p2, o2, ha2, hp2, hall⟩ := (HS.out.keep B).all (by omega)
                  obtain ⟨x0, x1⟩ := hall (i + 1) hjn
                  obtain ⟨y0, y1⟩ := hall i (by omega)
                  cases ha2
                  rw [HTT.out] at x0
                  rw [HVV.out] at x1
                  rw [HUU.out] at y1
                  clear hall hp y0
                  have HC := Lib.hid (cntG_iff (size := size) (b := b0) (e := t) hs1 m)
                  have HGM := Lib.hid (HG.out m)
                  have HS1' := Lib.hid (gapL_succ size 0 b0 m)
                  have HLM := Lib.hid (gapL_len size 0 b0 m)
                  have HLC := Lib.hid (gapL_len size 0 b0 (cntG size b0 t))
                  have HMS := Lib.hid (show ((m : Int) + 1) * size = (m : Int) * size + size from by rw [Int.add_mul, Int.one_mul])
                  obtain ⟨b, hb⟩ : ∃ b, b0 + (m : Int) * size = b := ⟨_, rfl⟩
                  rw [hb] at HC HGM HS1' ⊢
                  have HBB := Lib.hid hb
                  obtain ⟨F, hF⟩ : ∃ F, F0 ++ gapL size 0 b0 m = F := ⟨_, rfl⟩
                  rw [hF] at hown hfl
                  have HFF := Lib.hid hF
                  clear hb hF
                  obtain ⟨ad, cp, rfl⟩ := owns_sl hown
                  obtain ⟨i0, hi0, hz0, hz1, hz2⟩ := info_parts info_samp
                  by_cases hlt : b < t
                  · have HM := Lib.hid (HC.out.2 hlt)
                    have HMB := Lib.hid (show -9223372036854775808 ≤ b ∧ b + size ≤ 9223372036854775807 from by
                      have := HGM.out (by have := HT1.out; omega)
                      have := HT1.out
                      have := HBB.out
                      have := startB_fix HR.out HSI.out
                      omega)
                    obtain ⟨hb1, hb2⟩ := HMB.out
                    have HFIN := Lib.hid (show (F ++ [(b, 0)]).length ≤ (fillP 1 size align z z.length).length from by
                      have h1 := HPL.out
                      rw [HGP.out, List.length_append, HLC.out] at h1
                      have h2 : F.length = F0.length + m := by rw [← HFF.out, List.length_append, HLM.out]
                      have := HM.out
                      rw [List.length_append, List.length_singleton]
                      omega)
                    clear HC HGM
                    go_wp2_with (at_builtin; refine wpList_append_own _ rfl _ _ 22 rfl w.heap.size 27 i0 _ 2 16 Try.underlying22 hi0 hz0 hz1 hz2 rfl (by decide) _ _ _ rfl (hown.alloc _) ⟨wr.heap.size, 0, none⟩ 1 1 [.int .i64 b, .int .i64 0] rfl rfl (two_cells _ _ _ _) (smp_one _ _) (by unfold maxLen; omega) (by omega) (by simp; omega) ?_)
                    intro v7 W7 o7 g7 _
                    have B7 := (B.alloc s2 (.cells #[.int .i64 b, .int .i64 0] 27)).grown g7 (by simp; omega) (fun k hk => (hown.lt k hk).1)
                    have o8 : W7.ownsRow w.heap.size 27 2 v7 (F ++ [(b, 0)]).length (smpCells (F ++ [(b, 0)])) := by
                      rw [List.length_append, List.length_singleton, smpCells_snoc]; exact o7
                    have hl8 : (F ++ [(b, 0)]).length ≤ 10001 := by rw [List.length_append, List.length_singleton]; omega
                    have HA8 := Lib.hid (show F0 ++ gapL size 0 b0 (m + 1) = F ++ [(b, 0)] from by rw [HS1'.out, ← List.append_assoc, HFF.out])
                    generalize F ++ [(b, 0)] = F8 at *
                    clear g7 hi0 hz0 hz1 hz2 x0 x1 y1 hown o7 B s2
                    obtain ⟨ad8, cp8, rfl⟩ := owns_sl o8
                    by_cases hbig : 10000 < F8.length
                    · have hbig' : (10000 : Int) < (F8.length : Int) := by omega
                      have E := Lib.hid (EB.out (by have := HFIN.out; omega))
                      clear EB EO
                      go_wp2
                      go_ret2
                      exact ⟨none, 0, 0, (by rw [E.out]; rfl), (by rw [E.out]; exact SampAt.nil _), B7⟩
                    · have hbig' : ¬ (10000 : Int) < (F8.length : Int) := by omega
                      go_wp2
                      go_roundw
                      case rel =>
                        refine ⟨m + 1, HM.out, ?_, ?_, ?_, B7⟩
                        · have h1 := HMS.out
                          have h2 := HBB.out
                          rw [show ((m + 1 : Nat) : Int) = (m : Int) + 1 from by omega, h1, ← h2]
                          congr 1; omega
                        · rw [HA8.out]; exact o8
                        · rw [HA8.out]; omega
                      case measure => simp only [intOf]; omega
                  · have hm2 : m = cntG size b0 t := by
                      have : ¬ m < cntG size b0 t := fun h => hlt (HC.out.1 h)
                      omega
                    have HF2 := Lib.hid (show fillP 1 size align z (i + 1) = F from by rw [HGP.out, ← hm2, HFF.out])
                    rw [HF2.out] at HST
                    clear HC HGM hm2
                    go_wp2_with (at_builtin; refine wpList_append_own _ rfl _ _ 22 rfl w.heap.size 27 i0 _ 2 16 Try.underlying22 hi0 hz0 hz1 hz2 rfl (by decide) _ _ _ rfl (hown.alloc _) ⟨wr.heap.size, 0, none⟩ 1 1 [.int .i64 t, .int .i64 v] rfl rfl (two_cells _ _ _ _) (smp_one _ _) (by unfold maxLen; omega) (by omega) (by simp; omega) ?_)
                    intro v7 W7 o7 g7 _
                    have B7 := (B.alloc s2 (.cells #[.int .i64 t, .int .i64 v] 27)).grown g7 (by simp; omega) (fun k hk => (hown.lt k hk).1)
                    have o8 : W7.ownsRow w.heap.size 27 2 v7 (F ++ [(t, v)]).length (smpCells (F ++ [(t, v)])) := by
                      rw [List.length_append, List.length_singleton, smpCells_snoc]; exact o7
                    have hl8 : (F ++ [(t, v)]).length ≤ 10001 := by rw [List.length_append, List.length_singleton]; omega
                    generalize F ++ [(t, v)] = F8 at *
                    rw [HST.out] at HFT
                    clear g7 hi0 hz0 hz1 hz2 x0 x1 y1 hown o7 B s2
                    obtain ⟨ad8, cp8, rfl⟩ := owns_sl o8
                    by_cases hbig : 10000 < F8.length
                    · have hbig' : (10000 : Int) < (F8.length : Int) := by omega
                      have E := Lib.hid (EB.out (by have := HFT.out; omega))
                      clear EB EO
                      go_wp2
                      go_ret2
                      exact ⟨none, 0, 0, (by rw [E.out]; rfl), (by rw [E.out]; exact SampAt.nil _), B7⟩
                    · have hbig' : ¬ (10000 : Int) < (F8.length : Int) := by omega
                      go_wp2
                      go_roundw
                      case rel => exact ⟨i + 1 + 1, by omega, by go_num, by rw [HST.out]; exact o8, by rw [HST.out]; omega, B7⟩
                      case measure => simp [intOf]; omega
            · obtain rfl : j = len := by omega
              have HA := Lib.hid (show fillT 1 size align z j = fillP 1 size align z z.length from by rw [← HL.out]; exact fillT_all _ _ _ _)
              rw [HA.out] at hown hfl
              have E := Lib.hid (EO.out hfl)
              obtain ⟨ad, cp, rfl, hS, _⟩ := owns_samps H64.out (by omega) hown
              have HSS := Lib.hid hS
              clear EO EB hown hS
              go_wp2
              go_ret2
              exact ⟨_, _, _, (by rw [E.out]; rfl), (by rw [E.out]; exact HSS.out), B⟩
        · have HU := Lib.hid (show ∀ v, emptyV 4 v = some 0 from fun v => rfl)
          go_wp2
          go_loopw [12, 13] (fun o i wr => ∃ j : Nat, j ≤ len ∧ i = .int .i64 (j : Int) ∧ wr.ownsRow w.heap.size 27 2 o (fillT 4 size align z j).length (smpCells (fillT 4 size align z j)) ∧ (fillT 4 size align z j).length ≤ 10000 ∧ Below w.heap.size w wr) (fun _ i _ => len - (intOf i).toNat)
          case atStart => exact ⟨0, Nat.zero_le _, rfl, World.ownsRow_nil _ _ _ _, by simp [fillT], B1⟩
          case round =>
            obtain ⟨j, hj, rfl, hown, hfl, B⟩ := hrel
            have s2 := B.size
            by_cases hjn : j < len
            · obtain ⟨p, o, ha, hp, hall⟩ := (HS.out.keep B).all (by omega)
              obtain ⟨x0, x1⟩ := hall j hjn
              subst ha
              have HFT := Lib.hid (fillT_le 4 size align z j (by rw [HL.out]; exact hjn))
              have HST := Lib.hid (show fillT 4 size align z (j + 1) = fillP 4 size align z j ++ [(tOf z j, vOf z j)] from rfl)
              by_cases hz : j = 0
              · have HF0 := Lib.hid (show fillP 4 size align z j = fillT 4 size align z j from by subst hz; rfl)
                have HF00 := Lib.hid (show (fillT 4 size align z j).length = 0 from by subst hz; rfl)
                obtain ⟨t, ht⟩ : ∃ t, tOf z j = t := ⟨_, rfl⟩
                obtain ⟨v, hv⟩ : ∃ v, vOf z j = v := ⟨_, rfl⟩
                rw [ht] at x0 HST
                rw [hv] at x1 HST
                rw [HF0.out] at HST
                generalize fillT 4 size align z j = F at *
                obtain ⟨i0, hi0, hz0, hz1, hz2⟩ := info_parts info_samp
                have hj0 : ¬ (0 : Int) < (j : Int) := by omega
                have hj4 : ¬ 0 < j := by omega
                clear hall ht hv hz HF0
                go_wp2_with (at_builtin; refine wpList_append_own _ rfl _ _ 22 rfl w.heap.size 27 i0 _ 2 16 Try.underlying22 hi0 hz0 hz1 hz2 rfl (by decide) _ _ _ rfl (hown.alloc _) ⟨wr.heap.size, 0, none⟩ 1 1 [.int .i64 t, .int .i64 v] rfl rfl (two_cells _ _ _ _) (smp_one _ _) (by unfold maxLen; omega) (by omega) (by simp; omega) ?_)
                intro v5 W5 o5 g5 _
                have B5 := (B.alloc s2 (.cells #[.int .i64 t, .int .i64 v] 27)).grown g5 (by simp; omega) (fun k hk => (hown.lt k hk).1)
                have o6 : W5.ownsRow w.heap.size 27 2 v5 (F ++ [(t, v)]).length (smpCells (F ++ [(t, v)])) := by
                  rw [List.length_append, List.length_singleton, smpCells_snoc]; exact o5
                have hl6 : (F ++ [(t, v)]).length = 1 := by rw [List.length_append, HF00.out]; rfl
                clear g5 hi0 hz0 hz1 hz2 x0 x1 hown o5 B s2
                generalize F ++ [(t, v)] = F8 at *
                obtain ⟨ad, cp, rfl⟩ := owns_sl o6
                have hbig' : ¬ (10000 : Int) < (F8.length : Int) := by omega
                go_wp2
                go_roundw
                case rel => exact ⟨j + 1, by omega, by go_num, by rw [HST.out]; exact o6, by rw [HST.out]; omega, B5⟩
                case measure => simp [intOf]; omega
              · obtain ⟨i, hi⟩ : ∃ i, j = i + 1 := ⟨j - 1, by omega⟩
                subst hi
                obtain ⟨y0, y1⟩ := hall i (by omega)
                have hk1 : ((i + 1 : Nat) : Int) - 1 = (i : Int) := by omega
                have hkl : (i : Int) < (len : Int) := by omega
                have hkw : IntKind.i64.wrap (i : Int) = (i : Int) := IntWalk.i64_in _ ⟨by omega, by omega⟩
                have hj0 : (0 : Int) < ((i + 1 : Nat) : Int) := by omega
                have hj4 : 0 < i + 1 := by omega
                have HGP := Lib.hid (show fillP 4 size align z (i + 1) = fillT 4 size align z (i + 1) ++ gapL size 0 (endB (tOf z i) size align) (cntG size (endB (tOf z i) size align) (tOf z (i + 1))) from by
                  rw [fillT_gap, gapAt_some (HU.out _) (by rw [HL.out]; exact hjn)])
                have HPL := Lib.hid (fillP_le 4 size align z (show i + 1 ≤ z.length by rw [HL.out]; omega))
                have HT1 := Lib.hid (startB_fix HR.out (HB.out (i + 1) (by rw [HL.out]; exact hjn)).1)
                have HSI := Lib.hid (HB.out i (by rw [HL.out]; omega)).1
                obtain ⟨t, ht⟩ : ∃ t, tOf z (i + 1) = t := ⟨_, rfl⟩
                obtain ⟨v, hv⟩ : ∃ v, vOf z (i + 1) = v := ⟨_, rfl⟩
                obtain ⟨s, hs⟩ : ∃ s, tOf z i = s := ⟨_, rfl⟩
                obtain ⟨u, hu⟩ : ∃ u, vOf z i = u := ⟨_, rfl⟩
                rw [ht] at x0 HST HGP HT1
                rw [hv] at x1 HST
                rw [hs] at y0 HGP HSI
                rw [hu] at y1
                have HTT := Lib.hid ht
                have HVV := Lib.hid hv
                have HUU := Lib.hid hu
                skip
                clear hall ht hv hs hu hz x0 x1 hk1 hkl hkw
                have hk1 : ((i + 1 : Nat) : Int) - 1 = (i : Int) := by omega
                have hkl : (i : Int) < (len : Int) := by omega
                have hkw : IntKind.i64.wrap (i : Int) = (i : Int) := IntWalk.i64_in _ ⟨by omega, by omega⟩
                go_wp2_with fail
                refine (rend_any s size align _).mono ?_
                rintro e w' ⟨rfl, rfl⟩
                have HG := Lib.hid (fun m hm => gap_step HR.out HSI.out m hm)
                generalize endB s size align = b0 at *
                generalize hFF : fillT 4 size align z (i + 1) = F0 at *
                clear hFF y0 y1
                go_wp2
                go_loopw [12, 14] (fun o b wr => ∃ m : Nat, m ≤ cntG size b0 t ∧ b = .int .i64 (b0 + (m : Int) * size) ∧ wr.ownsRow w.heap.size 27 2 o (F0 ++ gapL size 0 b0 m).length (smpCells (F0 ++ gapL size 0 b0 m)) ∧ (F0 ++ gapL size 0 b0 m).length ≤ 10000 ∧ Below w.heap.size w wr) (fun _ b _ => (t - intOf b).toNat)
                case atStart =>
                  refine ⟨0, Nat.zero_le _, ?_, ?_, ?_, B⟩
                  · simp
                  · rw [gapL_zero, List.append_nil]; exact hown
                  · rw [gapL_zero, List.append_nil]; exact hfl
                case round =>
                  clear hown hfl B s2
                  obtain ⟨m, hm, rfl, hown, hfl, B⟩ := hrel
                  have s2 := B.size
                  obtain ⟨p2, o2, ha2, hp2, hall⟩ := (HS.out.keep B).all (by omega)
                  obtain ⟨x0, x1⟩ := hall (i + 1) hjn
                  obtain ⟨y0, y1⟩ := hall i (by omega)
                  cases ha2
                  rw [HTT.out] at x0
                  rw [HVV.out] at x1
                  rw [HUU.out] at y1
                  clear hall hp y0
                  have HC := Lib.hid (cntG_iff (size := size) (b := b0) (e := t) hs1 m)
                  have HGM := Lib.hid (HG.out m)
                  have HS1' := Lib.hid (gapL_succ size 0 b0 m)
                  have HLM := Lib.hid (gapL_len size 0 b0 m)
                  have HLC := Lib.hid (gapL_len size 0 b0 (cntG size b0 t))
                  have HMS := Lib.hid (show ((m : Int) + 1) * size = (m : Int) * size + size from by rw [Int.add_mul, Int.one_mul])
                  obtain ⟨b, hb⟩ : ∃ b, b0 + (m : Int) * size = b := ⟨_, rfl⟩
                  rw [hb] at HC HGM HS1' ⊢
                  have HBB := Lib.hid hb
                  obtain ⟨F, hF⟩ : ∃ F, F0 ++ gapL size 0 b0 m = F := ⟨_, rfl⟩
                  rw [hF] at hown hfl
                  have HFF := Lib.hid hF
                  clear hb hF
                  obtain ⟨ad, cp, rfl⟩ := owns_sl hown
                  obtain ⟨i0, hi0, hz0, hz1, hz2⟩ := info_parts info_samp
                  by_cases hlt : b < t
                  · have HM := Lib.hid (HC.out.2 hlt)
                    have HMB := Lib.hid (show -9223372036854775808 ≤ b ∧ b + size ≤ 9223372036854775807 from by
                      have := HGM.out (by have := HT1.out; omega)
                      have := HT1.out
                      have := HBB.out
                      have := startB_fix HR.out HSI.out
                      omega)
                    obtain ⟨hb1, hb2⟩ := HMB.out
                    have HFIN := Lib.hid (show (F ++ [(b, 0)]).length ≤ (fillP 4 size align z z.length).length from by
                      have h1 := HPL.out
                      rw [HGP.out, List.length_append, HLC.out] at h1
                      have h2 : F.length = F0.length + m := by rw [← HFF.out, List.length_append, HLM.out]
                      have := HM.out
                      rw [List.length_append, List.length_singleton]
                      omega)
                    clear HC HGM
                    go_wp2_with (at_builtin; refine wpList_append_own _ rfl _ _ 22 rfl w.heap.size 27 i0 _ 2 16 Try.underlying22 hi0 hz0 hz1 hz2 rfl (by decide) _ _ _ rfl (hown.alloc _) ⟨wr.heap.size, 0, none⟩ 1 1 [.int .i64 b, .int .i64 0] rfl rfl (two_cells _ _ _ _) (smp_one _ _) (by unfold maxLen; omega) (by omega) (by simp; omega) ?_)
                    intro v7 W7 o7 g7 _
                    have B7 := (B.alloc s2 (.cells #[.int .i64 b, .int .i64 0] 27)).grown g7 (by simp; omega) (fun k hk => (hown.lt k hk).1)
                    have o8 : W7.ownsRow w.heap.size 27 2 v7 (F ++ [(b, 0)]).length (smpCells (F ++ [(b, 0)])) := by
                      rw [List.length_append, List.length_singleton, smpCells_snoc]; exact o7
                    have hl8 : (F ++ [(b, 0)]).length ≤ 10001 := by rw [List.length_append, List.length_singleton]; omega
                    have HA8 := Lib.hid (show F0 ++ gapL size 0 b0 (m + 1) = F ++ [(b, 0)] from by rw [HS1'.out, ← List.append_assoc, HFF.out])
                    generalize F ++ [(b, 0)] = F8 at *
                    clear g7 hi0 hz0 hz1 hz2 x0 x1 y1 hown o7 B s2
                    obtain ⟨ad8, cp8, rfl⟩ := owns_sl o8
                    by_cases hbig : 10000 < F8.length
                    · have hbig' : (10000 : Int) < (F8.length : Int) := by omega
                      have E := Lib.hid (EB.out (by have := HFIN.out; omega))
                      clear EB EO
                      go_wp2
                      go_ret2
                      exact ⟨none, 0, 0, (by rw [E.out]; rfl), (by rw [E.out]; exact SampAt.nil _), B7⟩
                    · have hbig' : ¬ (10000 : Int) < (F8.length : Int) := by omega
                      go_wp2
                      go_roundw
                      case rel =>
                        refine ⟨m + 1, HM.out, ?_, ?_, ?_, B7⟩
                        · have h1 := HMS.out
                          have h2 := HBB.out
                          rw [show ((m + 1 : Nat) : Int) = (m : Int) + 1 from by omega, h1, ← h2]
                          congr 1; omega
                        · rw [HA8.out]; exact o8
                        · rw [HA8.out]; omega
                      case measure => simp only [intOf]; omega
                  · have hm2 : m = cntG size b0 t := by
                      have : ¬ m < cntG size b0 t := fun h => hlt (HC.out.1 h)
                      omega
                    have HF2 := Lib.hid (show fillP 4 size align z (i + 1) = F from by rw [HGP.out, ← hm2, HFF.out])
                    rw [HF2.out] at HST
                    clear HC HGM hm2
                    go_wp2_with (at_builtin; refine wpList_append_own _ rfl _ _ 22 rfl w.heap.size 27 i0 _ 2 16 Try.underlying22 hi0 hz0 hz1 hz2 rfl (by decide) _ _ _ rfl (hown.alloc _) ⟨wr.heap.size, 0, none⟩ 1 1 [.int .i64 t, .int .i64 v] rfl rfl (two_cells _ _ _ _) (smp_one _ _) (by unfold maxLen; omega) (by omega) (by simp; omega) ?_)
                    intro v7 W7 o7 g7 _
                    have B7 := (B.alloc s2 (.cells #[.int .i64 t, .int .i64 v] 27)).grown g7 (by simp; omega) (fun k hk => (hown.lt k hk).1)
                    have o8 : W7.ownsRow w.heap.size 27 2 v7 (F ++ [(t, v)]).length (smpCells (F ++ [(t, v)])) := by
                      rw [List.length_append, List.length_singleton, smpCells_snoc]; exact o7
                    have hl8 : (F ++ [(t, v)]).length ≤ 10001 := by rw [List.length_append, List.length_singleton]; omega
                    generalize F ++ [(t, v)] = F8 at *
                    rw [HST.out] at HFT
                    clear g7 hi0 hz0 hz1 hz2 x0 x1 y1 hown o7 B s2
                    obtain ⟨ad8, cp8, rfl⟩ := owns_sl o8
                    by_cases hbig : 10000 < F8.length
                    · have hbig' : (10000 : Int) < (F8.length : Int) := by omega
                      have E := Lib.hid (EB.out (by have := HFT.out; omega))
                      clear EB EO
                      go_wp2
                      go_ret2
                      exact ⟨none, 0, 0, (by rw [E.out]; rfl), (by rw [E.out]; exact SampAt.nil _), B7⟩
                    · have hbig' : ¬ (10000 : Int) < (F8.length : Int) := by omega
                      go_wp2
                      go_roundw
                      case rel => exact ⟨i + 1 + 1, by omega, by go_num, by rw [HST.out]; exact o8, by rw [HST.out]; omega, B7⟩
                      case measure => simp [intOf]; omega
            · obtain rfl : j = len := by omega
              have HA := Lib.hid (show fillT 4 size align z j = fillP 4 size align z z.length from by rw [← HL.out]; exact fillT_all _ _ _ _)
              rw [HA.out] at hown hfl
              have E := Lib.hid (EO.out hfl)
              obtain ⟨ad, cp, rfl, hS, _⟩ := owns_samps H64.out (by omega) hown
              have HSS := Lib.hid hS
              clear EO EB hown hS
              go_wp2
              go_ret2
              exact ⟨_, _, _, (by rw [E.out]; rfl), (by rw [E.out]; exact HSS.out), B⟩
        · have HU := Lib.hid (show ∀ v, emptyV 6 v = some v from fun v => rfl)
          go_wp2
          go_loopw [12, 13] (fun o i wr => ∃ j : Nat, j ≤ len ∧ i = .int .i64 (j : Int) ∧ wr.ownsRow w.heap.size 27 2 o (fillT 6 size align z j).length (smpCells (fillT 6 size align z j)) ∧ (fillT 6 size align z j).length ≤ 10000 ∧ Below w.heap.size w wr) (fun _ i _ => len - (intOf i).toNat)
          case atStart => exact ⟨0, Nat.zero_le _, rfl, World.ownsRow_nil _ _ _ _, by simp [fillT], B1⟩
          case round =>
            obtain ⟨j, hj, rfl, hown, hfl, B⟩ := hrel
            have s2 := B.size
            by_cases hjn : j < len
            · obtain ⟨p, o, ha, hp, hall⟩ := (HS.out.keep B).all (by omega)
              obtain ⟨x0, x1⟩ := hall j hjn
              subst ha
              have HFT := Lib.hid (fillT_le 6 size align z j (by rw [HL.out]; exact hjn))
              have HST := Lib.hid (show fillT 6 size align z (j + 1) = fillP 6 size align z j ++ [(tOf z j, vOf z j)] from rfl)
              by_cases hz : j = 0
              · have HF0 := Lib.hid (show fillP 6 size align z j = fillT 6 size align z j from by subst hz; rfl)
                have HF00 := Lib.hid (show (fillT 6 size align z j).length = 0 from by subst hz; rfl)
                obtain ⟨t, ht⟩ : ∃ t, tOf z j = t := ⟨_, rfl⟩
                obtain ⟨v, hv⟩ : ∃ v, vOf z j = v := ⟨_, rfl⟩
                rw [ht] at x0 HST
                rw [hv] at x1 HST
                rw [HF0.out] at HST
                generalize fillT 6 size align z j = F at *
                obtain ⟨i0, hi0, hz0, hz1, hz2⟩ := info_parts info_samp
                have hj0 : ¬ (0 : Int) < (j : Int) := by omega
                have hj4 : ¬ 0 < j := by omega
                clear hall ht hv hz HF0
                go_wp2_with (at_builtin; refine wpList_append_own _ rfl _ _ 22 rfl w.heap.size 27 i0 _ 2 16 Try.underlying22 hi0 hz0 hz1 hz2 rfl (by decide) _ _ _ rfl (hown.alloc _) ⟨wr.heap.size, 0, none⟩ 1 1 [.int .i64 t, .int .i64 v] rfl rfl (two_cells _ _ _ _) (smp_one _ _) (by unfold maxLen; omega) (by omega) (by simp; omega) ?_)
                intro v5 W5 o5 g5 _
                have B5 := (B.alloc s2 (.cells #[.int .i64 t, .int .i64 v] 27)).grown g5 (by simp; omega) (fun k hk => (hown.lt k hk).1)
                have o6 : W5.ownsRow w.heap.size 27 2 v5 (F ++ [(t, v)]).length (smpCells (F ++ [(t, v)])) := by
                  rw [List.length_append, List.length_singleton, smpCells_snoc]; exact o5
                have hl6 : (F ++ [(t, v)]).length = 1 := by rw [List.length_append, HF00.out]; rfl
                clear g5 hi0 hz0 hz1 hz2 x0 x1 hown o5 B s2
                generalize F ++ [(t, v)] = F8 at *
                obtain ⟨ad, cp, rfl⟩ := owns_sl o6
                have hbig' : ¬ (10000 : Int) < (F8.length : Int) := by omega
                go_wp2
                go_roundw
                case rel => exact ⟨j + 1, by omega, by go_num, by rw [HST.out]; exact o6, by rw [HST.out]; omega, B5⟩
                case measure => simp [intOf]; omega
              · obtain ⟨i, hi⟩ : ∃ i, j = i + 1 := ⟨j - 1, by omega⟩
                subst hi
                obtain ⟨y0, y1⟩ := hall i (by omega)
                have hk1 : ((i + 1 : Nat) : Int) - 1 = (i : Int) := by omega
                have hkl : (i : Int) < (len : Int) := by omega
                have hkw : IntKind.i64.wrap (i : Int) = (i : Int) := IntWalk.i64_in _ ⟨by omega, by omega⟩
                have hj0 : (0 : Int) < ((i + 1 : Nat) : Int) := by omega
                have hj4 : 0 < i + 1 := by omega
                have HGP := Lib.hid (show fillP 6 size align z (i + 1) = fillT 6 size align z (i + 1) ++ gapL size (vOf z i) (endB (tOf z i) size align) (cntG size (endB (tOf z i) size align) (tOf z (i + 1))) from by
                  rw [fillT_gap, gapAt_some (HU.out _) (by rw [HL.out]; exact hjn)])
                have HPL := Lib.hid (fillP_le 6 size align z (show i + 1 ≤ z.length by rw [HL.out]; omega))
                have HT1 := Lib.hid (startB_fix HR.out (HB.out (i + 1) (by rw [HL.out]; exact hjn)).1)
                have HSI := Lib.hid (HB.out i (by rw [HL.out]; omega)).1
                obtain ⟨t, ht⟩ : ∃ t, tOf z (i + 1) = t := ⟨_, rfl⟩
                obtain ⟨v, hv⟩ : ∃ v, vOf z (i + 1) = v := ⟨_, rfl⟩
                obtain ⟨s, hs⟩ : ∃ s, tOf z i = s := ⟨_, rfl⟩
                obtain ⟨u, hu⟩ : ∃ u, vOf z i = u := ⟨_, rfl⟩
                rw [ht] at x0 HST HGP HT1
                rw [hv] at x1 HST
                rw [hs] at y0 HGP HSI
                rw [hu] at y1
                have HTT := Lib.hid ht
                have HVV := Lib.hid hv
                have HUU := Lib.hid hu
                rw [hu] at HGP
                clear hall ht hv hs hu hz x0 x1 hk1 hkl hkw
                have hk1 : ((i + 1 : Nat) : Int) - 1 = (i : Int) := by omega
                have hkl : (i : Int) < (len : Int) := by omega
                have hkw : IntKind.i64.wrap (i : Int) = (i : Int) := IntWalk.i64_in _ ⟨by omega, by omega⟩
                go_wp2_with fail
                refine (rend_any s size align _).mono ?_
                rintro e w' ⟨rfl, rfl⟩
                have HG := Lib.hid (fun m hm => gap_step HR.out HSI.out m hm)
                generalize endB s size align = b0 at *
                generalize hFF : fillT 6 size align z (i + 1) = F0 at *
                clear hFF y0 y1
                go_wp2
                go_loopw [12, 14] (fun o b wr => ∃ m : Nat, m ≤ cntG size b0 t ∧ b = .int .i64 (b0 + (m : Int) * size) ∧ wr.ownsRow w.heap.size 27 2 o (F0 ++ gapL size u b0 m).length (smpCells (F0 ++ gapL size u b0 m)) ∧ (F0 ++ gapL size u b0 m).length ≤ 10000 ∧ Below w.heap.size w wr) (fun _ b _ => (t - intOf b).toNat)
                case atStart =>
                  refine ⟨0, Nat.zero_le _, ?_, ?_, ?_, B⟩
                  · simp
                  · rw [gapL_zero, List.append_nil]; exact hown
                  · rw [gapL_zero, List.append_nil]; exact hfl
                case round =>
                  clear hown hfl B s2
                  obtain ⟨m, hm, rfl, hown, hfl, B⟩ := hrel
                  have s2 := B.size
                  obtain ⟨p2, o2, ha2, hp2, hall⟩ := (HS.out.keep B).all (by omega)
                  obtain ⟨x0, x1⟩ := hall (i + 1) hjn
                  obtain ⟨y0, y1⟩ := hall i (by omega)
                  cases ha2
                  rw [HTT.out] at x0
                  rw [HVV.out] at x1
                  rw [HUU.out] at y1
                  clear hall hp y0
                  have HC := Lib.hid (cntG_iff (size := size) (b := b0) (e := t) hs1 m)
                  have HGM := Lib.hid (HG.out m)
                  have HS1' := Lib.hid (gapL_succ size u b0 m)
                  have HLM := Lib.hid (gapL_len size u b0 m)
                  have HLC := Lib.hid (gapL_len size u b0 (cntG size b0 t))
                  have HMS := Lib.hid (show ((m : Int) + 1) * size = (m : Int) * size + size from by rw [Int.add_mul, Int.one_mul])
                  obtain ⟨b, hb⟩ : ∃ b, b0 + (m : Int) * size = b := ⟨_, rfl⟩
                  rw [hb] at HC HGM HS1' ⊢
                  have HBB := Lib.hid hb
                  obtain ⟨F, hF⟩ : ∃ F, F0 ++ gapL size u b0 m = F := ⟨_, rfl⟩
                  rw [hF] at hown hfl
                  have HFF := Lib.hid hF
                  clear hb hF
                  obtain ⟨ad, cp, rfl⟩ := owns_sl hown
                  obtain ⟨i0, hi0, hz0, hz1, hz2⟩ := info_parts info_samp
                  by_cases hlt : b < t
                  · have HM := Lib.hid (HC.out.2 hlt)
                    have HMB := Lib.hid (show -9223372036854775808 ≤ b ∧ b + size ≤ 9223372036854775807 from by
                      have := HGM.out (by have := HT1.out; omega)
                      have := HT1.out
                      have := HBB.out
                      have := startB_fix HR.out HSI.out
                      omega)
                    obtain ⟨hb1, hb2⟩ := HMB.out
                    have HFIN := Lib.hid (show (F ++ [(b, u)]).length ≤ (fillP 6 size align z z.length).length from by
                      have h1 := HPL.out
                      rw [HGP.out, List.length_append, HLC.out] at h1
                      have h2 : F.length = F0.length + m := by rw [← HFF.out, List.length_append, HLM.out]
                      have := HM.out
                      rw [List.length_append, List.length_singleton]
                      omega)
                    clear HC HGM
                    go_wp2_with (at_builtin; refine wpList_append_own _ rfl _ _ 22 rfl w.heap.size 27 i0 _ 2 16 Try.underlying22 hi0 hz0 hz1 hz2 rfl (by decide) _ _ _ rfl (hown.alloc _) ⟨wr.heap.size, 0, none⟩ 1 1 [.int .i64 b, .int .i64 u] rfl rfl (two_cells _ _ _ _) (smp_one _ _) (by unfold maxLen; omega) (by omega) (by simp; omega) ?_)
                    intro v7 W7 o7 g7 _
                    have B7 := (B.alloc s2 (.cells #[.int .i64 b, .int .i64 u] 27)).grown g7 (by simp; omega) (fun k hk => (hown.lt k hk).1)
                    have o8 : W7.ownsRow w.heap.size 27 2 v7 (F ++ [(b, u)]).length (smpCells (F ++ [(b, u)])) := by
                      rw [List.length_append, List.length_singleton, smpCells_snoc]; exact o7
                    have hl8 : (F ++ [(b, u)]).length ≤ 10001 := by rw [List.length_append, List.length_singleton]; omega
                    have HA8 := Lib.hid (show F0 ++ gapL size u b0 (m + 1) = F ++ [(b, u)] from by rw [HS1'.out, ← List.append_assoc, HFF.out])
                    generalize F ++ [(b, u)] = F8 at *
                    clear g7 hi0 hz0 hz1 hz2 x0 x1 y1 hown o7 B s2
                    obtain ⟨ad8, cp8, rfl⟩ := owns_sl o8
                    by_cases hbig : 10000 < F8.length
                    · have hbig' : (10000 : Int) < (F8.length : Int) := by omega
                      have E := Lib.hid (EB.out (by have := HFIN.out; omega))
                      clear EB EO
                      go_wp2
                      go_ret2
                      exact ⟨none, 0, 0, (by rw [E.out]; rfl), (by rw [E.out]; exact SampAt.nil _), B7⟩
                    · have hbig' : ¬ (10000 : Int) < (F8.length : Int) := by omega
                      go_wp2
                      go_roundw
                      case rel =>
                        refine ⟨m + 1, HM.out, ?_, ?_, ?_, B7⟩
                        · have h1 := HMS.out
                          have h2 := HBB.out
                          rw [show ((m + 1 : Nat) : Int) = (m : Int) + 1 from by omega, h1, ← h2]
                          congr 1; omega
                        · rw [HA8.out]; exact o8
                        · rw [HA8.out]; omega
                      case measure => simp only [intOf]; omega
                  · have hm2 : m = cntG size b0 t := by
                      have : ¬ m < cntG size b0 t := fun h => hlt (HC.out.1 h)
                      omega
                    have HF2 := Lib.hid (show fillP 6 size align z (i + 1) = F from by rw [HGP.out, ← hm2, HFF.out])
                    rw [HF2.out] at HST
                    clear HC HGM hm2
                    go_wp2_with (at_builtin; refine wpList_append_own _ rfl _ _ 22 rfl w.heap.size 27 i0 _ 2 16 Try.underlying22 hi0 hz0 hz1 hz2 rfl (by decide) _ _ _ rfl (hown.alloc _) ⟨wr.heap.size, 0, none⟩ 1 1 [.int .i64 t, .int .i64 v] rfl rfl (two_cells _ _ _ _) (smp_one _ _) (by unfold maxLen; omega) (by omega) (by simp; omega) ?_)
                    intro v7 W7 o7 g7 _
                    have B7 := (B.alloc s2 (.cells #[.int .i64 t, .int .i64 v] 27)).grown g7 (by simp; omega) (fun k hk => (hown.lt k hk).1)
                    have o8 : W7.ownsRow w.heap.size 27 2 v7 (F ++ [(t, v)]).length (smpCells (F ++ [(t, v)])) := by
                      rw [List.length_append, List.length_singleton, smpCells_snoc]; exact o7
                    have hl8 : (F ++ [(t, v)]).length ≤ 10001 := by rw [List.length_append, List.length_singleton]; omega
                    generalize F ++ [(t, v)] = F8 at *
                    rw [HST.out] at HFT
                    clear g7 hi0 hz0 hz1 hz2 x0 x1 y1 hown o7 B s2
                    obtain ⟨ad8, cp8, rfl⟩ := owns_sl o8
                    by_cases hbig : 10000 < F8.length
                    · have hbig' : (10000 : Int) < (F8.length : Int) := by omega
                      have E := Lib.hid (EB.out (by have := HFT.out; omega))
                      clear EB EO
                      go_wp2
                      go_ret2
                      exact ⟨none, 0, 0, (by rw [E.out]; rfl), (by rw [E.out]; exact SampAt.nil _), B7⟩
                    · have hbig' : ¬ (10000 : Int) < (F8.length : Int) := by omega
                      go_wp2
                      go_roundw
                      case rel => exact ⟨i + 1 + 1, by omega, by go_num, by rw [HST.out]; exact o8, by rw [HST.out]; omega, B7⟩
                      case measure => simp [intOf]; omega
            · obtain rfl : j = len := by omega
              have HA := Lib.hid (show fillT 6 size align z j = fillP 6 size align z z.length from by rw [← HL.out]; exact fillT_all _ _ _ _)
              rw [HA.out] at hown hfl
              have E := Lib.hid (EO.out hfl)
              obtain ⟨ad, cp, rfl, hS, _⟩ := owns_samps H64.out (by omega) hown
              have HSS := Lib.hid hS
              clear EO EB hown hS
              go_wp2
              go_ret2
              exact ⟨_, _, _, (by rw [E.out]; rfl), (by rw [E.out]; exact HSS.out), B⟩
      · have HZ := Lib.hid (show fillP k size align z z.length = z from by rw [fillP_bare hk _ (Nat.le_refl _), List.take_of_length_le (Nat.le_refl _)])
        have E := Lib.hid (EO.out (by rw [HZ.out, HL.out]; exact hl))
        rw [HZ.out] at E
        have k1 : (k != 1) = true := by rw [bne_iff_ne]; omega
        have k4 : (k != 4) = true := by rw [bne_iff_ne]; omega
        have k6 : (k != 6) = true := by rw [bne_iff_ne]; omega
        clear hk EO EB
        go_wp2
        go_ret2
        exact ⟨a, len, cap, by rw [E.out]; rfl, by rw [E.out]; exact HS1.out, B1⟩

set_option maxRecDepth 100000 in
set_option maxHeartbeats 4000000 in
theorem rfill_bad (k size align : Int) (a : Option Addr) (len cap : Nat) (z : List (Int × Int)) (w : World) (h : SampAt w a len cap z) (hl : len ≤ 10000) (hf : kok k ∧ rightB size align) (hb : ¬ areB size align z) :
    Calls Try.prog 19 #[.int .i64 k, .int .i64 size, .int .i64 align, .slice a len cap] w (TellP ([], 1) w) := by
  have HL := Lib.hid h.1
  have HS := Lib.hid h
  have HB := Lib.hid hb
  have HR := Lib.hid hf.2
  obtain ⟨nm, hnm⟩ : ∃ nm, nm = nmA k := ⟨_, rfl⟩
  have HN := Lib.hid hnm
  have t4 : ¬ nm.toList = [] := by rw [hnm]; exact fun e => (nmA_empty k).1 e hf.1
  have t5 : nm.toList.isEmpty = false := by simpa using t4
  clear h hb hf hnm
  go_enter Try.func19, Try.ntmps19
  go_wp2_with fail
  refine (arname_any _ _).mono ?_
  rintro e W1 ⟨rfl, B1⟩
  rw [← HN.out]
  go_wp2_with fail
  refine (rrightB_any _ _ _).mono ?_
  rintro e w' ⟨rfl, rfl⟩
  rw [decide_eq_true HR.out]
  have s1 := B1.size
  have HS1 := Lib.hid (HS.out.keep B1)
  go_wp2
  go_loopw [10] (fun i wr => ∃ j : Nat, j ≤ len ∧ i = .int .i64 (j : Int) ∧ Hid (∀ i, i < j → startB (tOf z i) size align = tOf z i ∧ (0 < i → tOf z (i - 1) < tOf z i)) ∧ W1 = wr) (fun i _ => len - (intOf i).toNat)
  case atStart => exact ⟨0, Nat.zero_le _, rfl, Lib.hid (fun i hi => by omega), rfl⟩
  case round =>
    obtain ⟨j, hj, rfl, HT, rfl⟩ := hrel
    by_cases hjn : j < len
    · obtain ⟨p, o, ha, hp, hall⟩ := HS1.out.all (by omega)
      obtain ⟨x0, x1⟩ := hall j hjn
      subst ha
      have HST := Lib.hid (areB_step (size := size) (align := align) (z := z) (j := j) HT.out)
      obtain ⟨t, ht⟩ : ∃ t, tOf z j = t := ⟨_, rfl⟩
      rw [ht] at x0 HST
      by_cases he : startB t size align = t
      · have HE := Lib.hid he
        obtain ⟨h0, h1⟩ := startB_fix HR.out he
        have h0' : ¬ t < 0 := by omega
        have h1' : ¬ (1099511627776 : Int) < t := by omega
        have tb : (t != t) = false := by simp
        by_cases hz : j = 0
        · have hj0 : ¬ (0 : Int) < (j : Int) := by omega
          have hj4 : ¬ 0 < j := by omega
          have HT2 := Lib.hid (HST.out he (fun h => absurd h hj4))
          clear hall x1 ht hz he HST HT
          go_wp2_with fail
          refine (rstart_any t size align _).mono ?_
          rintro e w' ⟨rfl, rfl⟩
          rw [HE.out]
          go_wp2
          go_roundw
          case rel => exact ⟨j + 1, by omega, by go_num, HT2, by trivial⟩
          case measure => simp [intOf]; omega
        · obtain ⟨i, hi⟩ : ∃ i, j = i + 1 := ⟨j - 1, by omega⟩
          rw [show j - 1 = i from by omega] at HST
          obtain ⟨y0, y1⟩ := hall i (by omega)
          generalize tOf z i = u at *
          have hk1 : (j : Int) - 1 = (i : Int) := by omega
          have hkl : (i : Int) < (len : Int) := by omega
          have hkw : IntKind.i64.wrap (i : Int) = (i : Int) := IntWalk.i64_in _ ⟨by omega, by omega⟩
          have hj0 : (0 : Int) < (j : Int) := by omega
          have hj4 : 0 < j := by omega
          by_cases hlt : u < t
          · have hlt' : ¬ t ≤ u := by omega
            have HT2 := Lib.hid (HST.out he (fun _ => hlt))
            clear hall x1 y1 ht hz hi he HST HT
            go_wp2_with fail
            refine (rstart_any t size align _).mono ?_
            rintro e w' ⟨rfl, rfl⟩
            rw [HE.out]
            go_wp2
            go_roundw
            case rel => exact ⟨j + 1, by omega, by go_num, HT2, by trivial⟩
            case measure => simp [intOf]; omega
          · have hlt' : t ≤ u := by omega
            clear hall x1 y1 ht hz hi he HST HT
            go_wp2_with fail
            refine (rstart_any t size align _).mono ?_
            rintro e w' ⟨rfl, rfl⟩
            rw [HE.out]
            go_wp2
            go_ret2
            exact ⟨none, 0, 0, rfl, SampAt.nil _, B1⟩
      · have tb : (startB t size align != t) = true := by rw [bne_iff_ne]; exact he
        clear hall x1 ht he HST HT
        by_cases h0 : t < 0
        · go_wp2
          go_ret2
          exact ⟨none, 0, 0, rfl, SampAt.nil _, B1⟩
        · by_cases h1 : 1099511627776 < t
          · go_wp2
            go_ret2
            exact ⟨none, 0, 0, rfl, SampAt.nil _, B1⟩
          · go_wp2_with fail
            refine (rstart_any t size align _).mono ?_
            rintro e w' ⟨rfl, rfl⟩
            generalize startB t size align = st at *
            go_wp2
            go_ret2
            exact ⟨none, 0, 0, rfl, SampAt.nil _, B1⟩
    · exfalso
      exact HB.out (fun i hi => HT.out i (by rw [HL.out] at hi; omega))

set_option maxHeartbeats 1000000 in
theorem rfill_any (k size align : Int) (a : Option Addr) (len cap : Nat) (z : List (Int × Int)) (w : World) (h : SampAt w a len cap z) (hl : len ≤ 10000) :
    Calls Try.prog 19 #[.int .i64 k, .int .i64 size, .int .i64 align, .slice a len cap] w (TellP (fillR k size align z) w) := by
  by_cases hk : kok k
  · by_cases hr : rightB size align
    · by_cases hb : areB size align z
      · exact rfill_ok k size align a len cap z w h hl ⟨hk, hr⟩ hb
      · rw [show fillR k size align z = ([], 1) from by unfold fillR; rw [if_neg (fun h => hb h.2)]]
        exact rfill_bad k size align a len cap z w h hl ⟨hk, hr⟩ hb
    · rw [show fillR k size align z = ([], 1) from by unfold fillR; rw [if_neg (fun h => hr h.1.2)]]
      have HR := Lib.hid hr
      obtain ⟨nm, hnm⟩ : ∃ nm, nm = nmA k := ⟨_, rfl⟩
      have HN := Lib.hid hnm
      have t4 : ¬ nm.toList = [] := by rw [hnm]; exact fun e => (nmA_empty k).1 e hk
      have t5 : nm.toList.isEmpty = false := by simpa using t4
      clear h hk hr hnm
      go_enter Try.func19, Try.ntmps19
      go_wp2_with fail
      refine (arname_any _ _).mono ?_
      rintro e W1 ⟨rfl, B1⟩
      rw [← HN.out]
      go_wp2_with fail
      refine (rrightB_any _ _ _).mono ?_
      rintro e w' ⟨rfl, rfl⟩
      rw [decide_eq_false HR.out]
      go_wp2
      go_ret2
      exact ⟨none, 0, 0, rfl, SampAt.nil _, B1⟩
  · rw [show fillR k size align z = ([], 1) from by unfold fillR; rw [if_neg (fun h => hk h.1.1)]]
    obtain ⟨nm, hnm⟩ : ∃ nm, nm = nmA k := ⟨_, rfl⟩
    have HN := Lib.hid hnm
    have t4 : nm.toList = [] := by rw [hnm]; exact (nmA_empty k).2 hk
    have t5 : nm.toList.isEmpty = true := by simpa using t4
    clear h hk hnm
    go_enter Try.func19, Try.ntmps19
    go_wp2_with fail
    refine (arname_any _ _).mono ?_
    rintro e W1 ⟨rfl, B1⟩
    rw [← HN.out]
    go_wp2
    go_ret2
    exact ⟨none, 0, 0, rfl, SampAt.nil _, B1⟩

end Go.Proofs.Ytpahohnpcfgegaa
