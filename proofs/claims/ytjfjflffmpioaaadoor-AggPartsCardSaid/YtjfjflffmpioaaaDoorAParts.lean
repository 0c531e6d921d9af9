/-
  The walk of AggParts, of some samples.
-/
import Derived.Test.YtjfjflffmpioaaaDoorAKnown
namespace Go.Proofs.YtjfjflffmpioaaaDoor
namespace aggParts
open Go.ChangeShapes Go.WideShapes Go.ChangeAt Go.RowKit
set_option linter.unusedVariables false
set_option linter.unusedSimpArgs false


theorem vals_take (z : List (Int × Int)) (n : Nat) : valsOf (z.take n) = (valsOf z).take n := by unfold valsOf; rw [List.map_take]
/-- The p-th of the samples the other way round. -/
theorem rev_step (y : List (Int × Int)) (p : Nat) (h : p < y.length) : y.reverse.take (p + 1) = y.reverse.take p ++ [(tOf y (y.length - 1 - p), vOf y (y.length - 1 - p))] := by
  rw [List.take_succ_eq_append_getElem (by rw [List.length_reverse]; exact h), List.getElem_reverse]
  congr 2
  unfold tOf vOf
  rw [List.getD_eq_getElem?_getD, List.getElem?_eq_getElem (by omega)]
  rfl
theorem at_take (z : List (Int × Int)) (n i : Nat) (h : i < n) : tOf (z.take n) i = tOf z i ∧ vOf (z.take n) i = vOf z i := by
  unfold tOf vOf
  rw [List.getD_eq_getElem?_getD, List.getD_eq_getElem?_getD, List.getElem?_take, if_pos h]
  exact ⟨rfl, rfl⟩
theorem vals_rev (y : List (Int × Int)) : valsOf y.reverse = (valsOf y).reverse := by unfold valsOf; rw [List.map_reverse]
theorem rev64 {y : List (Int × Int)} (h : All64 y) : All64 y.reverse := fun x hx => h x (List.mem_reverse.1 hx)
theorem st_row {w : World} {b : Nat} {k : Int} {l : List Int} {base : Nat} {v : Value} {n : Nat} {xs : List Value} (h : StP w b k l) (hown : w.ownsRow base 39 2 v n xs) : some b ≠ v.ownBlock := by
  intro e
  obtain ⟨m, lo, hi, hs, _⟩ := h
  rcases hown.2 with ⟨rfl, _⟩ | ⟨g, cp, cur, rfl, _, hgc, _⟩
  · simp [Value.ownBlock] at e
  · simp [Value.ownBlock] at e
    subst e
    unfold SCel at hs
    rw [hs] at hgc
    simp at hgc
/-- A number that is no end's neighbour. -/
def Few (v : Int) : Prop := -1125899906842624 < v ∧ v < 1125899906842624


set_option maxRecDepth 100000 in
set_option maxHeartbeats 8000000 in
/-- From the state without numbers on: c numbers, a copy, and the others. -/
theorem walk1 (a0 a2 : Int) (a : Option Addr) (len cap : Nat) (z : List (Int × Int)) (w : World) (h : ANamesAt w) (hz : SampAt w a len cap z) (k : Int) (n c : Nat) (hk : kok k) (hn : n ≤ len) (hn40 : n ≤ 40) (hc : c ≤ n)
    (hmin : min (len : Int) 40 = (n : Int)) (r : Int) (hr : a0 % 7 = r) (ht : a0.tmod 7 = r) (hkr : 1 + r = k) (hr0 : 0 ≤ r) (hr6 : r ≤ 6) (ha0 : 0 ≤ a0 ∧ a0 ≤ 255) (ha2 : 0 ≤ a2 ∧ a2 ≤ 255)
    (hcut : 0 < n ∧ a2 % ((n : Int) + 1) = (c : Int) ∧ a2.tmod ((n : Int) + 1) = (c : Int)) :
    Calls Tryd.prog 7 #[.int .u8 a0, .slice a len cap, .int .u8 a2] w fun e w' => e = .returned (.bool true) ∧ Below w.heap.size w w' := by
  have H := Lib.hid h
  have HZ := Lib.hid hz
  have HK := Lib.hid hk
  have HZL := Lib.hid (show (z.take n).length = n from by rw [List.length_take, hz.1]; omega)
  obtain ⟨ha01, ha02⟩ := ha0
  obtain ⟨ha21, ha22⟩ := ha2
  clear h hz hk
  have key : ∀ (u : List Value) (Q : Exit → Act → World → Prop), True := fun _ _ => trivial
  clear key
  obtain ⟨hn0, hq1, hq2⟩ := hcut
  have hnz : (0 : Int) < (n : Int) := by omega
  have hnn : ((n : Int) + 1) ≠ 0 := by omega
  go_enter Tryd.func7, Tryd.ntmps7
  go_wp2_with fail
  try rw [hkr]
  refine (anew_ok k _ HK.out).mono ?_
  rintro e W1 ⟨sb, rfl, hsb, S1, B1⟩
  have HSB := Lib.hid hsb
  clear hsb
  go_wp2
  go_loopw [12] (fun i wr => ∃ j : Nat, j ≤ c ∧ i = .int .i64 (j : Int) ∧ StP wr sb k ((valsOf z).take j) ∧ Below w.heap.size w wr) (fun i _ => c - (intOf i).toNat)
  case atStart => exact ⟨0, Nat.zero_le _, rfl, S1, B1⟩
  case round =>
    clear S1 B1
    obtain ⟨j, hj, rfl, S, B⟩ := hrel
    by_cases hjc : j < c
    · first
        | (exfalso; have := HC0.out; omega)
        | (have hjl : j < len := by omega
           obtain ⟨p, o, rfl, hp, x0, x1⟩ := (HZ.out.keep B).at_ j hjl
           have HV := Lib.hid (vOf_in HZ.out.2.2.2.1 j)
           have HT := Lib.hid (vOf_vals z j (by rw [HZ.out.1]; exact hjl))
           generalize vOf z j = v at *
           clear x0
           go_wp2_with fail
           refine (add_st sb k _ v _ HK.out S HV.out (by rw [List.length_take]; omega)).mono ?_
           rintro e W5 ⟨rfl, S5, g5⟩
           have B5 := bel_gb B B.size HSB.out g5
           rw [← HT.out] at S5
           clear S B g5 x1 HT
           go_wp2
           go_roundw
           case rel => exact ⟨j + 1, by omega, by go_num, S5, B5⟩
           case measure => (simp [intOf] <;> omega))
    · obtain rfl : j = c := by omega
      go_wp2_with fail
      refine (copy_st sb k _ _ HK.out S).mono ?_
      rintro e W2 ⟨tb, rfl, htb, T2, b2⟩
      have S2 := S.keepB b2
      have HTB := Lib.hid (show w.heap.size ≤ tb from Nat.le_trans B.size htb)
      have HNE := Lib.hid (show sb ≠ tb from by have := S.lt; omega)
      have B2 := bel_gbn B B.size (gb_below b2)
      clear S B b2 htb hjc
      go_wp2
      go_loopw [16] (fun i wr => ∃ q : Nat, j ≤ q ∧ q ≤ n ∧ i = .int .i64 (q : Int) ∧ StP wr sb k ((valsOf z).take j) ∧ StP wr tb k ((valsOf z).take q) ∧ Below w.heap.size w wr) (fun i _ => n - (intOf i).toNat)
      case atStart => exact ⟨j, Nat.le_refl _, hc, rfl, S2, T2, B2⟩
      case round =>
        clear S2 T2 B2
        obtain ⟨q, hq0, hqn, rfl, S, TT, B⟩ := hrel
        by_cases hqc : q < n
        · have hql : q < len := by omega
          obtain ⟨p, o, rfl, hp, x0, x1⟩ := (HZ.out.keep B).at_ q hql
          have HV := Lib.hid (vOf_in HZ.out.2.2.2.1 q)
          have HT := Lib.hid (vOf_vals z q (by rw [HZ.out.1]; exact hql))
          generalize vOf z q = v at *
          clear x0
          go_wp2_with fail
          refine (add_st tb k _ v _ HK.out TT HV.out (by rw [List.length_take]; omega)).mono ?_
          rintro e W5 ⟨rfl, T5, g5⟩
          have S5 := S.keep g5 (by simp; exact HNE.out)
          have B5 := bel_gb B B.size HTB.out g5
          rw [← HT.out] at T5
          clear S TT B g5 x1 HT
          go_wp2
          go_roundw
          case rel => exact ⟨q + 1, by omega, by omega, by go_num, S5, T5, B5⟩
          case measure => (simp [intOf] <;> omega)
        · obtain rfl : q = n := by omega
          clear hqc
          have hn0' : (0 : Int) ≤ (q : Int) := by omega
          go_wp2
          go_loopw [14, 15, 17] (fun v m i wr => ∃ (p : Nat) (g : Bool), p ≤ q ∧ i = .int .i64 ((q : Int) - 1 - (p : Int)) ∧ m = .bool g ∧ Hid (g = true → ∀ x ∈ valsOf ((z.take q).reverse.take p), Few x) ∧ wr.ownsRow w.heap.size 39 2 v p (smpCells ((z.take q).reverse.take p)) ∧ StP wr sb k ((valsOf z).take j) ∧ StP wr tb k ((valsOf z).take q) ∧ Below w.heap.size w wr) (fun _ _ i _ => (intOf i + 1).toNat)
          case atStart => exact ⟨0, true, Nat.zero_le _, by simp, rfl, Lib.hid (fun _ x hx => by simp [valsOf] at hx), World.ownsRow_nil _ _ _ _, S, TT, B⟩
          case round =>
            clear S TT B
            obtain ⟨p, g, hp, rfl, rfl, HG, hown, S, TT, B⟩ := hrel
            by_cases hpq : p < q
            · obtain ⟨i, hi⟩ : ∃ i : Nat, i + 1 + p = q := ⟨q - 1 - p, by omega⟩
              have HIQ := Lib.hid hi
              have hi40 : i < 40 := by omega
              have hii : (q : Int) - 1 - (p : Int) = (i : Int) := by omega
              rw [hii]
              have hil : i < len := by omega
              have HST := Lib.hid (show smpCells ((z.take q).reverse.take (p + 1)) = smpCells ((z.take q).reverse.take p) ++ [.int .i64 (tOf z i), .int .i64 (vOf z i)] from by
                rw [rev_step _ _ (by rw [HZL.out]; exact hpq), HZL.out, show q - 1 - p = i from by omega, (at_take z q i (by omega)).1, (at_take z q i (by omega)).2, smpCells_snoc])
              have HVS := Lib.hid (show valsOf ((z.take q).reverse.take (p + 1)) = valsOf ((z.take q).reverse.take p) ++ [vOf z i] from by
                rw [rev_step _ _ (by rw [HZL.out]; exact hpq), HZL.out, show q - 1 - p = i from by omega, (at_take z q i (by omega)).1, (at_take z q i (by omega)).2, valsOf_app]; rfl)
              obtain ⟨pb, o, rfl, hpb, x0, x1⟩ := (HZ.out.keep B).at_ i hil
              obtain ⟨t, htt⟩ : ∃ t, tOf z i = t := ⟨_, rfl⟩
              obtain ⟨v, hvv⟩ : ∃ v, vOf z i = v := ⟨_, rfl⟩
              rw [htt] at HST x0
              rw [hvv] at HST HVS x1
              have HVV := Lib.hid hvv
              clear htt hvv hi hii hpq
              have s3 := B.size
              obtain ⟨i0, hi, hz0, hz1, hz2⟩ := info_parts info_samp
              go_wp2_with (at_builtin; refine wpList_append_own _ rfl _ _ 31 rfl w.heap.size 39 i0 _ 2 16 Tryd.underlying31 hi hz0 hz1 hz2 rfl (by decide) _ _ _ rfl (hown.alloc _) ⟨wr.heap.size, 0, none⟩ 1 1 [.int .i64 t, .int .i64 v] rfl rfl (two_cells _ _ _ _) (smp_one _ _) (by unfold maxLen; omega) (by omega) (by simp; omega) ?_)
              intro v' W5 hown5 g5 _
              have B5 := (B.alloc s3 (.cells #[.int .i64 t, .int .i64 v] 39)).grown g5 (by simp; omega) (fun k hk => (hown.lt k hk).1)
              have S5 := (S.keepN (World.grownBy_alloc wr (.cells #[.int .i64 t, .int .i64 v] 39) none)).keep g5 (st_row S hown)
              have T5 := (TT.keepN (World.grownBy_alloc wr (.cells #[.int .i64 t, .int .i64 v] 39) none)).keep g5 (st_row TT hown)
              obtain ⟨pb', o', e, _, y0, y1⟩ := (HZ.out.keep B5).at_ i hil
              cases e
              rw [HVV.out] at y1
              clear S TT B g5 hown hi hz0 hz1 hz2 x0 x1 s3 y0
              cases g
              · go_wp2
                go_roundw
                case rel => exact ⟨p + 1, false, by have := HIQ.out; omega, by rw [show (q : Int) - 1 - ((p + 1 : Nat) : Int) = (i : Int) - 1 from by have := HIQ.out; omega], rfl, Lib.hid (fun h => by cases h), by rw [HST.out]; exact hown5, S5, T5, B5⟩
                case measure => (simp [intOf] <;> omega)
              · have HGO := Lib.hid (HG.out rfl)
                clear HG
                by_cases hf1 : -1125899906842624 < v
                · by_cases hf2 : v < 1125899906842624
                  · have HF := Lib.hid (show ∀ x ∈ valsOf ((z.take q).reverse.take (p + 1)), Few x from fun x hx => by
                      rw [HVS.out] at hx
                      rcases List.mem_append.1 hx with hx | hx
                      · exact HGO.out x hx
                      · rw [List.mem_singleton] at hx; rw [hx]; exact ⟨hf1, hf2⟩)
                    go_wp2
                    go_roundw
                    case rel => exact ⟨p + 1, true, by have := HIQ.out; omega, by rw [show (q : Int) - 1 - ((p + 1 : Nat) : Int) = (i : Int) - 1 from by have := HIQ.out; omega], rfl, Lib.hid (fun _ => HF.out), by rw [HST.out]; exact hown5, S5, T5, B5⟩
                    case measure => (simp [intOf] <;> omega)
                  · go_wp2
                    go_roundw
                    case rel => exact ⟨p + 1, false, by have := HIQ.out; omega, by rw [show (q : Int) - 1 - ((p + 1 : Nat) : Int) = (i : Int) - 1 from by have := HIQ.out; omega], rfl, Lib.hid (fun h => by cases h), by rw [HST.out]; exact hown5, S5, T5, B5⟩
                    case measure => (simp [intOf] <;> omega)
                · go_wp2
                  go_roundw
                  case rel => exact ⟨p + 1, false, by have := HIQ.out; omega, by rw [show (q : Int) - 1 - ((p + 1 : Nat) : Int) = (i : Int) - 1 from by have := HIQ.out; omega], rfl, Lib.hid (fun h => by cases h), by rw [HST.out]; exact hown5, S5, T5, B5⟩
                  case measure => (simp [intOf] <;> omega)
            · obtain rfl : p = q := by omega
              have hneg : (p : Int) - 1 - (p : Int) = -1 := by omega
              rw [hneg]
              clear hneg hpq
              have HALL := Lib.hid (show (z.take p).reverse.take p = (z.take p).reverse from List.take_of_length_le (by rw [List.length_reverse, HZL.out]; exact Nat.le_refl _))
              rw [HALL.out] at hown HG
              have hown' : wr.ownsRow w.heap.size 39 2 u14 (z.take p).reverse.length (smpCells (z.take p).reverse) := by rw [List.length_reverse, HZL.out]; exact hown
              obtain ⟨ad, cp, rfl, LR⟩ := row_samp (rev64 (all64_take HZ.out.2.2.2.1 p)) (by rw [List.length_reverse, HZL.out]; omega) hown'
              rw [List.length_reverse, HZL.out] at LR ⊢
              clear hown hown'
              have HVT := Lib.hid (vals_take z p)
              go_wp2_with fail
              refine (value_st tb k _ _ HK.out TT (by rw [List.length_take]; omega)).mono ?_
              rintro e W3 ⟨rfl, b3⟩
              have S3 := S.keepB b3
              have T3 := TT.keepB b3
              have L3 := LR.keep b3
              have B3 := bel_gbn B B.size (gb_below b3)
              clear S TT LR B b3
              obtain ⟨u, hu⟩ : ∃ u, valK k ((valsOf z).take p) = u := ⟨_, rfl⟩
              obtain ⟨y, hy⟩ : ∃ y, decide ((valsOf z).take p ≠ []) = y := ⟨_, rfl⟩
              rw [hu, hy]
              have HU := Lib.hid (show valK k (valsOf (z.take p)) = u from by rw [HVT.out]; exact hu)
              have HY := Lib.hid (show isK k (valsOf (z.take p)) = y from by rw [HVT.out, ← hy]; unfold isK; rw [decide_eq_true (show 1 ≤ k ∧ k ≤ 7 from HK.out)]; rfl)
              clear hu hy
              unfold tell
              obtain ⟨a1, hs1, L1⟩ := samp_to HZ.out p (by omega)
              have HL1 := Lib.hid L1
              clear L1
              go_wp2_with fail
              clear hs1
              refine (fold_any k a1 p cap (z.take p) _ (HL1.out.keep B3) (by omega)).mono ?_
              rintro e W4 ⟨rfl, b4⟩
              have S4 := S3.keepB b4
              have T4 := T3.keepB b4
              have L4 := L3.keep b4
              have B4 := bel_gbn B3 B3.size (gb_below b4)
              clear S3 T3 L3 B3 b4
              rw [HU.out, HY.out]
              unfold tell
              go_wp2_with fail
              refine (fold_any k ad p cp (z.take p).reverse _ L4 (by omega)).mono ?_
              rintro e WA ⟨rfl, b5⟩
              have SA := S4.keepB b5
              have TA := T4.keepB b5
              have BA := bel_gbn B4 B4.size (gb_below b5)
              clear S4 T4 L4 B4 b5
              obtain ⟨x, hx⟩ : ∃ x, valK k (valsOf (z.take p).reverse) = x := ⟨_, rfl⟩
              obtain ⟨y2, hy2⟩ : ∃ y2, isK k (valsOf (z.take p).reverse) = y2 := ⟨_, rfl⟩
              rw [hx, hy2]
              have HX := Lib.hid (show (k = 2 ∨ k = 3 ∨ k = 4 ∨ k = 7 ∨ (k = 1 ∧ g = true)) → x = u from fun hk => by
                rw [← hx, ← HU.out, vals_rev]
                refine valK_rev _ ?_
                rcases hk with hk | hk | hk | hk | ⟨hk, hg⟩
                · exact .inl hk
                · exact .inr (.inl hk)
                · exact .inr (.inr (.inl hk))
                · exact .inr (.inr (.inr (.inl hk)))
                · refine .inr (.inr (.inr (.inr ⟨hk, by rw [valsOf_len, HZL.out]; omega, fun v hv => ?_⟩)))
                  have := HG.out hg v (by rw [vals_rev]; exact List.mem_reverse.2 hv)
                  unfold Few at this
                  omega)
              clear hx hy2
              unfold tell
              have ELC := Lib.hid (show (((valsOf z).take j).length : Int) = (j : Int) from by rw [List.length_take, valsOf_len, HZ.out.1]; omega)
              have ELN := Lib.hid (show (((valsOf z).take p).length : Int) = (p : Int) from by rw [List.length_take, valsOf_len, HZ.out.1]; omega)
              have tuu : (u == u) = true := by simp
              rcases kinds HK.out with rfl | rfl | rfl | rfl | rfl | rfl | rfl
              · cases g
                · clear HX
                  have tyy : (y == y) = true := by simp
                  cases y
                  all_goals
                    go_wp2_with fail
                    refine (len_st sb _ _ _ HK.out SA).mono ?_
                    rintro e w' ⟨rfl, rfl⟩
                    rw [ELC.out]
                    go_wp2_with fail
                    refine (len_st tb _ _ _ HK.out TA).mono ?_
                    rintro e w' ⟨rfl, rfl⟩
                    rw [ELN.out]
                    go_wp2_with fail
                    refine (aknown_any _ (H.out.below BA)).mono ?_
                    rintro e W6 ⟨rfl, b6⟩
                    have B6 := bel_gbn BA BA.size (gb_below b6)
                    go_wp2
                    go_ret
                    exact ⟨rfl, B6⟩
                · have hx := HX.out (by simp)
                  subst hx
                  clear HX
                  have tyy : (y == y) = true := by simp
                  cases y
                  all_goals
                    go_wp2_with fail
                    refine (len_st sb _ _ _ HK.out SA).mono ?_
                    rintro e w' ⟨rfl, rfl⟩
                    rw [ELC.out]
                    go_wp2_with fail
                    refine (len_st tb _ _ _ HK.out TA).mono ?_
                    rintro e w' ⟨rfl, rfl⟩
                    rw [ELN.out]
                    go_wp2_with fail
                    refine (aknown_any _ (H.out.below BA)).mono ?_
                    rintro e W6 ⟨rfl, b6⟩
                    have B6 := bel_gbn BA BA.size (gb_below b6)
                    go_wp2
                    go_ret
                    exact ⟨rfl, B6⟩
              · have hx := HX.out (by simp)
                subst hx
                clear HX
                have tyy : (y == y) = true := by simp
                cases y
                all_goals
                  go_wp2_with fail
                  refine (len_st sb _ _ _ HK.out SA).mono ?_
                  rintro e w' ⟨rfl, rfl⟩
                  rw [ELC.out]
                  go_wp2_with fail
                  refine (len_st tb _ _ _ HK.out TA).mono ?_
                  rintro e w' ⟨rfl, rfl⟩
                  rw [ELN.out]
                  go_wp2_with fail
                  refine (aknown_any _ (H.out.below BA)).mono ?_
                  rintro e W6 ⟨rfl, b6⟩
                  have B6 := bel_gbn BA BA.size (gb_below b6)
                  go_wp2
                  go_ret
                  exact ⟨rfl, B6⟩
              · have hx := HX.out (by simp)
                subst hx
                clear HX
                have tyy : (y == y) = true := by simp
                cases y
                all_goals
                  go_wp2_with fail
                  refine (len_st sb _ _ _ HK.out SA).mono ?_
                  rintro e w' ⟨rfl, rfl⟩
                  rw [ELC.out]
                  go_wp2_with fail
                  refine (len_st tb _ _ _ HK.out TA).mono ?_
                  rintro e w' ⟨rfl, rfl⟩
                  rw [ELN.out]
                  go_wp2_with fail
                  refine (aknown_any _ (H.out.below BA)).mono ?_
                  rintro e W6 ⟨rfl, b6⟩
                  have B6 := bel_gbn BA BA.size (gb_below b6)
                  go_wp2
                  go_ret
                  exact ⟨rfl, B6⟩
              · have hx := HX.out (by simp)
                subst hx
                clear HX
                have tyy : (y == y) = true := by simp
                cases y
                all_goals
                  go_wp2_with fail
                  refine (len_st sb _ _ _ HK.out SA).mono ?_
                  rintro e w' ⟨rfl, rfl⟩
                  rw [ELC.out]
                  go_wp2_with fail
                  refine (len_st tb _ _ _ HK.out TA).mono ?_
                  rintro e w' ⟨rfl, rfl⟩
                  rw [ELN.out]
                  go_wp2_with fail
                  refine (aknown_any _ (H.out.below BA)).mono ?_
                  rintro e W6 ⟨rfl, b6⟩
                  have B6 := bel_gbn BA BA.size (gb_below b6)
                  go_wp2
                  go_ret
                  exact ⟨rfl, B6⟩
              · clear HX
                cases g
                all_goals
                  have tyy : (y == y) = true := by simp
                  cases y
                  all_goals
                    go_wp2_with fail
                    refine (len_st sb _ _ _ HK.out SA).mono ?_
                    rintro e w' ⟨rfl, rfl⟩
                    rw [ELC.out]
                    go_wp2_with fail
                    refine (len_st tb _ _ _ HK.out TA).mono ?_
                    rintro e w' ⟨rfl, rfl⟩
                    rw [ELN.out]
                    go_wp2_with fail
                    refine (aknown_any _ (H.out.below BA)).mono ?_
                    rintro e W6 ⟨rfl, b6⟩
                    have B6 := bel_gbn BA BA.size (gb_below b6)
                    go_wp2
                    go_ret
                    exact ⟨rfl, B6⟩
              · clear HX
                cases g
                all_goals
                  have tyy : (y == y) = true := by simp
                  cases y
                  all_goals
                    go_wp2_with fail
                    refine (len_st sb _ _ _ HK.out SA).mono ?_
                    rintro e w' ⟨rfl, rfl⟩
                    rw [ELC.out]
                    go_wp2_with fail
                    refine (len_st tb _ _ _ HK.out TA).mono ?_
                    rintro e w' ⟨rfl, rfl⟩
                    rw [ELN.out]
                    go_wp2_with fail
                    refine (aknown_any _ (H.out.below BA)).mono ?_
                    rintro e W6 ⟨rfl, b6⟩
                    have B6 := bel_gbn BA BA.size (gb_below b6)
                    go_wp2
                    go_ret
                    exact ⟨rfl, B6⟩
              · have hx := HX.out (by simp)
                subst hx
                clear HX
                have tyy : (y == y) = true := by simp
                cases y
                all_goals
                  go_wp2_with fail
                  refine (len_st sb _ _ _ HK.out SA).mono ?_
                  rintro e w' ⟨rfl, rfl⟩
                  rw [ELC.out]
                  go_wp2_with fail
                  refine (len_st tb _ _ _ HK.out TA).mono ?_
                  rintro e w' ⟨rfl, rfl⟩
                  rw [ELN.out]
                  go_wp2_with fail
                  refine (aknown_any _ (H.out.below BA)).mono ?_
                  rintro e W6 ⟨rfl, b6⟩
                  have B6 := bel_gbn BA BA.size (gb_below b6)
                  go_wp2
                  go_ret
                  exact ⟨rfl, B6⟩


end aggParts
end Go.Proofs.YtjfjflffmpioaaaDoor
