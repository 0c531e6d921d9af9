/-
  Contract of series.arranged: the same samples in chunks of which none is empty, and no two neighbours are both small.
-/
import Derived.Test.YtpbhdlhbcfkhfaaGreatSApp
import Derived.Test.YtpbhdlhbcfkhfaaGreatSOne
namespace Go.Proofs.YtpbhdlhbcfkhfaaGreat
open Go.RowKit
set_option linter.unusedVariables false
set_option linter.unusedSimpArgs false

theorem PRow.set {w : World} {base g cap : Nat} {bs : List Nat} {q : Nat} (h : PRow w base (.slice (some ⟨g, 0, none⟩) (bs.length + 1) cap) (bs ++ [q])) (o : Nat) : PRow (w.setCell ⟨g, bs.length, none⟩ (ptr o)) base (.slice (some ⟨g, 0, none⟩) (bs.length + 1) cap) (bs ++ [o]) := by
  rcases h.2 with ⟨e, _⟩ | ⟨g', cap', cur, e, hb, hg, hle, hmx, hsz, htk⟩
  · cases e
  · simp only [Value.slice.injEq, Option.some.injEq, Addr.mk.injEq, and_true, true_and] at e
    obtain ⟨rfl, _, rfl⟩ := e
    have hlt : bs.length < cur.size := by simp at hle; omega
    refine ⟨by simp, .inr ⟨g, cap, cur.setIfInBounds bs.length (ptr o), by simp, hb, heap_set hg, by simpa using hle, hmx, by simpa using hsz, ?_⟩⟩
    have h0 : cur.toList.take bs.length = bs.map ptr := by
      have := congrArg (List.take bs.length) htk
      rw [List.take_take] at this
      simpa using this
    have e2 : (cur.setIfInBounds bs.length (ptr o)).toList.take ((bs ++ [o]).length * 1) = cur.toList.take bs.length ++ [ptr o] := by
      rw [show (bs ++ [o]).length * 1 = bs.length + 1 from by simp]
      rw [Array.toList_setIfInBounds, List.take_succ_eq_append_getElem (by simpa using hlt)]
      congr 1
      · rw [List.take_set_of_le (Nat.le_refl _)]
      · simp
    rw [e2, h0]; simp
def ArrP (sz : Int) (Z : List (List (Int × Int))) (w : World) (e : Ending) (w' : World) : Prop :=
  ∃ v M, e = .returned v ∧ PRow w' w.heap.size v (bl M) ∧ Chs w' sz M ∧ zs M = Z ∧ Below w.heap.size w w'

set_option maxRecDepth 100000 in
set_option maxHeartbeats 2000000 in
theorem arranged_any (a : Option Addr) (len cap : Nat) (L : List (Nat × List (Int × Int))) (sz : Int) (w : World) (hp : Ptrs w a len cap (bl L)) (hc : Chs w sz L) (hs : 128 ≤ sz) (hs2 : sz ≤ 4096) (hn : (zs L).flatten.length ≤ 1048576) (hr : Rising (zs L).flatten) (hlen : len ≤ 524288) :
    Calls Tryz.prog 62 #[.slice a len cap] w (ArrP sz (arrL sz (zs L)) w) := by
  have HL := Lib.hid (show (zs L).length = len from by rw [zs_len, ← bl_len, hp.1])
  have HP := Lib.hid hp
  have HC := Lib.hid hc
  have HR := Lib.hid hr
  have HSN : Hid (∀ j, j < len → arrL sz ((zs L).take (j + 1)) = arrS sz (arrL sz ((zs L).take j)) ((zs L).getD j [])) := Lib.hid (fun j hj => by
    rw [List.take_succ_eq_append_getElem (by rw [HL.out]; exact hj), arrL_snoc, chunk_get (by rw [HL.out]; exact hj)])
  clear hp hc hr
  go_enter Tryz.func62, Tryz.ntmps62
  go_wp2_with fail
  go_loopw [3, 9] (fun v i wr => ∃ (j : Nat) (M : List (Nat × List (Int × Int))), j ≤ len ∧ i = .int .i64 (j : Int) ∧ PRow wr w.heap.size v (bl M) ∧ Chs wr sz M ∧ Hid (zs M = arrL sz ((zs L).take j)) ∧ M.length ≤ j ∧ Below w.heap.size w wr) (fun _ i _ => len - (intOf i).toNat)
  case atStart => exact ⟨0, [], Nat.zero_le _, rfl, PRow.nil _ _, (fun x hx => by cases hx), Lib.hid rfl, by simp, Below.refl _ _⟩
  case round =>
    obtain ⟨j, M, hj, rfl, rM, cM, HZ, hml, B2⟩ := hrel
    have s2 := B2.size
    by_cases hjl : j < len
    · obtain ⟨pb, po, rfl, hpb, x0⟩ := HP.out.at_ j hjl
      unfold ptr at x0
      have x0' := (B2.cell (p := ⟨pb, po + j, none⟩) hpb).trans x0
      have hq := (HC.out.keepB (w' := wr) B2).get (i := j) (by rw [← zs_len, HL.out]; exact hjl)
      have HS := Lib.hid (HSN.out j hjl)
      have hzl : ((zs L).getD j []).length ≤ 1048576 := Nat.le_trans (flat_len_get _ _) hn
      have HFR := Lib.hid (show Rising ((zs M).flatten ++ (zs L).getD j []) from by
        rw [HZ.out, arr_flat, ← take_flat _ _ (by rw [HL.out]; exact hjl)]
        have := HR.out
        rw [← List.take_append_drop (j + 1) (zs L), List.flatten_append] at this
        exact rising_left this)
      have HFL := Lib.hid (show ((zs M).flatten ++ (zs L).getD j []).length ≤ 1048576 from by
        rw [HZ.out, arr_flat, ← take_flat _ _ (by rw [HL.out]; exact hjl)]
        have := sumTo_le (zs L) (j + 1)
        unfold sumTo at this
        omega)
      have hj0 : (0 : Int) ≤ (j : Int) := by omega
      have hj1 : (j : Int) < (len : Int) := by omega
      generalize (bl L).getD j 0 = q at *
      generalize (zs L).getD j [] = z at *
      have HQ := Lib.hid hq
      clear x0 hq
      obtain ⟨av, cv, rfl, PM⟩ := rM.shape
      rw [bl_len] at PM rM ⊢
      by_cases hz : z.length = 0
      · have HE := Lib.hid (show zs M = arrL sz ((zs L).take (j + 1)) from by rw [HS.out]; unfold arrS; rw [if_pos hz]; exact HZ.out)
        go_wp2_with fail
        refine (len_ok q sz z _ HQ.out (by omega)).mono ?_
        rintro e W3 ⟨rfl, rfl⟩
        rw [hz]
        go_wp2
        go_roundw
        case rel => exact ⟨j + 1, M, by omega, by go_num, rM, cM, HE, by omega, B2⟩
        case measure => simp [intOf]; omega
      · have hz0 : ((z.length : Int) == 0) = false := by rw [beq_eq_false_iff_ne]; omega
        rcases List.eq_nil_or_concat M with hM | ⟨M', x, hM⟩
        · subst hM
          go_wp2_with fail
          refine (len_ok q sz z _ HQ.out (by omega)).mono ?_
          rintro e W3 ⟨rfl, rfl⟩
          have HE := Lib.hid (show zs ([] ++ [(q, z)]) = arrL sz ((zs L).take (j + 1)) from by rw [HS.out, ← HZ.out]; unfold arrS; rw [if_neg hz, if_neg (by simp [zs])]; simp [zs])
          obtain ⟨zl, hzl'⟩ : ∃ zl, z.length = zl := ⟨_, rfl⟩
          rw [hzl'] at hz0 ⊢
          clear hzl'
          have P8 := Ptrs.one wr q
          have r8 := rM.keepN (World.grownBy_alloc wr (.cells #[ptr q] 46) none)
          have ch8 := (cM.app (Chs.one HQ.out)).keepN (World.grownBy_alloc wr (.cells #[ptr q] 46) none)
          have B8 := B2.alloc s2 (.cells #[ptr q] 46)
          have s8 : w.heap.size ≤ (wr.alloc (.cells #[ptr q] 46)).heap.size := by have := s2; simp; omega
          have hlen8 : (bl ([] : List (Nat × List (Int × Int)))).length + 1 ≤ 1048576 := by rw [bl_len]; omega
          unfold ptr at P8 r8 ch8 B8 s8
          go_wp2_with (at_builtin; (refine wpList_append_ptrs ?_ (.tmp 16) (.tmp 18) rfl w.heap.size _ (bl ([] : List (Nat × List (Int × Int)))) rfl r8 _ 1 1 [q] rfl P8 hlen8 s8 ?_))
          intro v9 W9 r9 g9
          have ch9 := ch8.app_keep r8 g9
          have B9 := r8.bel B8 s8 (Nat.le_refl _) g9
          have HR9 := Lib.hid r9
          have HC9 := Lib.hid ch9
          clear P8 r8 ch8 B8 g9 r9 ch9
          go_wp2
          go_roundw
          case rel => exact ⟨j + 1, ([] : List (Nat × List (Int × Int))) ++ [(q, z)], by omega, by go_num, by rw [bl_app]; exact HR9.out, HC9.out, HE, (by simp at hml ⊢; try omega), B9⟩
          case measure => simp [intOf]; omega
        · rw [List.concat_eq_append] at hM
          obtain ⟨ql, zl⟩ := x
          subst hM
          have HKL := Lib.hid (show PCk wr ql sz zl from cM (ql, zl) (by simp))
          have HLO := Lib.hid (show lastOf (zs (M' ++ [(ql, zl)])) = zl from by simp [zs, lastOf])
          have HDL := Lib.hid (show (zs (M' ++ [(ql, zl)])).dropLast = zs M' from by simp [zs])
          have hzll : zl.length + z.length ≤ 1048576 := by
            have := HFL.out
            rw [zs_app, List.flatten_append] at this
            simp [zs] at this
            omega
          have HRL := Lib.hid (show Rising (zl ++ z) from by
            have := HFR.out
            rw [zs_app, List.flatten_append, List.append_assoc] at this
            have := rising_right this
            simpa [zs] using this)
          rw [show (M' ++ [(ql, zl)]).length = M'.length + 1 from by simp] at PM rM ⊢
          obtain ⟨gb, go, rfl, hgb, y0⟩ := PM.at_ M'.length (by omega)
          rw [show (bl (M' ++ [(ql, zl)])).getD M'.length 0 = ql from by rw [bl_get (by simp)]; simp] at y0
          unfold ptr at y0
          have hml' : M'.length + 1 ≤ j := by simpa using hml
          have hMi : ((M'.length : Int) + 1 - 1) = (M'.length : Int) := by omega
          have HMI := Lib.hid hMi
          clear hMi
          generalize hm' : M'.length = m at *
          go_wp2_with fail
          refine (len_ok q sz z _ HQ.out (by omega)).mono ?_
          rintro e W3 ⟨rfl, rfl⟩
          obtain rfl : go = 0 := by
            rcases rM.2 with ⟨e, _⟩ | ⟨g', c', cu, e, _⟩
            · cases e
            · simp at e; exact e.1.2
          rw [Nat.zero_add] at y0
          have hm0 : (0 : Int) ≤ (m : Int) := by omega
          have hm1 : (m : Int) < (m : Int) + 1 := by omega
          by_cases hsl : Small sz zl
          · go_wp2_with fail
            refine (isSmall_any ql sz zl _ HKL.out (by omega) (by omega)).mono ?_
            rintro e W4 ⟨rfl, b4⟩
            rw [decide_eq_true hsl]
            have HQ4 := Lib.hid (show PCk W4 q sz z from CAt.keepB HQ.out b4)
            by_cases hsc : Small sz z
            · go_wp2_with fail
              refine (isSmall_any q sz z _ HQ4.out (by omega) (by omega)).mono ?_
              rintro e W5 ⟨rfl, b5⟩
              rw [decide_eq_true hsc]
              have b45 : Below wr.heap.size wr W5 := b4.trans (b5.mono b4.size)
              have B5 := B2.trans (b45.mono s2)
              have r5 := rM.keepB b45
              have c5 := cM.keepB b45
              have L5D : Hid (PCk W5 ql sz zl) := Lib.hid (show PCk W5 ql sz zl from CAt.keepB HKL.out b45)
              have Q5D : Hid (PCk W5 q sz z) := Lib.hid (show PCk W5 q sz z from CAt.keepB HQ4.out b5)
              have s5 := B5.size
              have HE := Lib.hid (show zs M' ++ [zl ++ z] = arrL sz ((zs L).take (j + 1)) from by
                rw [HS.out, ← HZ.out]; unfold arrS
                rw [if_neg hz, if_pos ⟨by simp [zs], by rw [HLO.out]; exact hsl, hsc⟩, HDL.out, HLO.out])
              have HFJ := Lib.hid (small_join hs hsl hsc)
              obtain ⟨cur5, hg5⟩ : ∃ cur, W5.heap[gb]? = some (.cells cur 46 (0, 0)) := by
                rcases r5.2 with ⟨e, _⟩ | ⟨g', c', cu, e, _, hg, _⟩
                · cases e
                · simp at e; obtain ⟨rfl, _⟩ := e; exact ⟨cu, hg⟩
              have hgb5 := heap_lt hg5
              have y5 : W5.cell? ⟨gb, m, none⟩ = some (.pointer (some ⟨ql, 0, none⟩)) := (b45.cell (p := ⟨gb, m, none⟩) hgb).trans y0
              have f5 := frozen_of (o := m) hg5
              clear b45 rM cM HKL HQ HQ4 b4 b5 B2 y0 x0' PM
              go_wp2_with fail
              refine (joined_any ql q sz zl z _ L5D.out Q5D.out hs hs2 hzll HRL.out HFJ.out).mono ?_
              rintro e W6 ⟨o6, rfl, ho6, p6, b6⟩
              have c6 : W6.cell? ⟨gb, m, none⟩ = some (.pointer (some ⟨ql, 0, none⟩)) := (b6.cell (p := ⟨gb, m, none⟩) hgb5).trans y5
              have f6 : W6.frozen? ⟨gb, m, none⟩ = false := (b6.frozen (p := ⟨gb, m, none⟩) hgb5).trans f5
              have b6' : Below W5.heap.size W5 W6 := b6
              have r6 := r5.keepB b6'
              have ch6 := c5.keepB b6'
              have B6 := B5.trans (b6'.mono s5)
              have hgbase : w.heap.size ≤ gb := (r6.own gb rfl).1
              have hns6 := (r6.own gb rfl).2.1
              have hpt6 := (r6.own gb rfl).2.2
              rw [bl_app] at r6
              have hblm : (bl M').length = m := by rw [bl_len]; exact hm'
              have r7 : PRow (W6.setCell ⟨gb, m, none⟩ (ptr o6)) w.heap.size (.slice (some ⟨gb, 0, none⟩) (m + 1) cv) (bl M' ++ [o6]) := by
                rw [← hblm] at r6 ⊢
                exact PRow.set r6 o6
              have g7 : W6.grownBy (W6.setCell ⟨gb, m, none⟩ (ptr o6)) (some gb) := gb_set (gb_refl _ _) _ _
              have ch7 : Chs (W6.setCell ⟨gb, m, none⟩ (ptr o6)) sz (M' ++ [(o6, zl ++ z)]) :=
                ((ch6.sub (M := M') (fun x hx => by simp [hx])).app (Chs.one p6)).keepP g7 (fun r hr => by cases hr; exact ⟨hns6, hpt6⟩)
              have B7 : Below w.heap.size w (W6.setCell ⟨gb, m, none⟩ (ptr o6)) := bel_gb B6 B6.size hgbase g7
              have HR7 := Lib.hid r7
              have HC7 := Lib.hid ch7
              have HB7 := Lib.hid B7
              clear r5 c5 r6 ch6 r7 ch7 g7 B6 B7 b6 b6' y5 f5 hg5 p6 L5D Q5D B5
              unfold ptr at HR7 HC7 HB7
              go_wp2
              go_roundw
              case rel => exact ⟨j + 1, M' ++ [(o6, zl ++ z)], by omega, by go_num, by rw [bl_app]; exact HR7.out, HC7.out, Lib.hid (by rw [zs_app]; exact HE.out), (by simp; omega), HB7.out⟩
              case measure => simp [intOf]; omega
            · go_wp2_with fail
              refine (isSmall_any q sz z _ HQ4.out (by omega) (by omega)).mono ?_
              rintro e W5 ⟨rfl, b5⟩
              rw [decide_eq_false hsc]
              have b45 : Below wr.heap.size wr W5 := b4.trans (b5.mono b4.size)
              have B5 := B2.trans (b45.mono s2)
              have r5 := rM.keepB b45
              have c5 := cM.keepB b45
              have q5 := CAt.keepB HQ4.out b5
              have s5 := B5.size
              have HE := Lib.hid (show zs (M' ++ [(ql, zl)] ++ [(q, z)]) = arrL sz ((zs L).take (j + 1)) from by
                rw [HS.out, ← HZ.out]; unfold arrS
                rw [if_neg hz, if_neg (fun h => hsc h.2.2), zs_app (M' ++ [(ql, zl)])]; simp [zs])
              clear b45 rM cM HKL HQ HQ4 b4 b5 B2 y0 x0' PM
              have P8 := Ptrs.one W5 q
              have r8 := r5.keepN (World.grownBy_alloc W5 (.cells #[ptr q] 46) none)
              have ch8 := (c5.app (Chs.one q5)).keepN (World.grownBy_alloc W5 (.cells #[ptr q] 46) none)
              have B8 := B5.alloc s5 (.cells #[ptr q] 46)
              have s8 : w.heap.size ≤ (W5.alloc (.cells #[ptr q] 46)).heap.size := by have := s5; simp; omega
              have hlen8 : (bl (M' ++ [(ql, zl)])).length + 1 ≤ 1048576 := by rw [bl_len]; simp; omega
              unfold ptr at P8 r8 ch8 B8 s8
              go_wp2_with (at_builtin; (refine wpList_append_ptrs ?_ (.tmp 16) (.tmp 18) rfl w.heap.size _ (bl (M' ++ [(ql, zl)])) rfl r8 _ 1 1 [q] rfl P8 hlen8 s8 ?_))
              intro v9 W9 r9 g9
              have ch9 := ch8.app_keep r8 g9
              have B9 := r8.bel B8 s8 (Nat.le_refl _) g9
              have HR9 := Lib.hid r9
              have HC9 := Lib.hid ch9
              clear P8 r8 ch8 B8 g9 r9 ch9
              go_wp2
              go_roundw
              case rel => exact ⟨j + 1, (M' ++ [(ql, zl)]) ++ [(q, z)], by omega, by go_num, by rw [bl_app]; exact HR9.out, HC9.out, HE, (by simp; omega), B9⟩
              case measure => simp [intOf]; omega
          · go_wp2_with fail
            refine (isSmall_any ql sz zl _ HKL.out (by omega) (by omega)).mono ?_
            rintro e W4 ⟨rfl, b4⟩
            rw [decide_eq_false hsl]
            have B5 := B2.trans (b4.mono s2)
            have r5 := rM.keepB b4
            have c5 := cM.keepB b4
            have q5 := CAt.keepB HQ.out b4
            have s5 := B5.size
            have HE := Lib.hid (show zs (M' ++ [(ql, zl)] ++ [(q, z)]) = arrL sz ((zs L).take (j + 1)) from by
              rw [HS.out, ← HZ.out]; unfold arrS
              rw [if_neg hz, if_neg (fun h => hsl (by rw [HLO.out] at h; exact h.2.1)), zs_app (M' ++ [(ql, zl)])]; simp [zs])
            clear rM cM HKL HQ b4 B2 y0 x0' PM
            have P8 := Ptrs.one W4 q
            have r8 := r5.keepN (World.grownBy_alloc W4 (.cells #[ptr q] 46) none)
            have ch8 := (c5.app (Chs.one q5)).keepN (World.grownBy_alloc W4 (.cells #[ptr q] 46) none)
            have B8 := B5.alloc s5 (.cells #[ptr q] 46)
            have s8 : w.heap.size ≤ (W4.alloc (.cells #[ptr q] 46)).heap.size := by have := s5; simp; omega
            have hlen8 : (bl (M' ++ [(ql, zl)])).length + 1 ≤ 1048576 := by rw [bl_len]; simp; omega
            unfold ptr at P8 r8 ch8 B8 s8
            go_wp2_with (at_builtin; (refine wpList_append_ptrs ?_ (.tmp 16) (.tmp 18) rfl w.heap.size _ (bl (M' ++ [(ql, zl)])) rfl r8 _ 1 1 [q] rfl P8 hlen8 s8 ?_))
            intro v9 W9 r9 g9
            have ch9 := ch8.app_keep r8 g9
            have B9 := r8.bel B8 s8 (Nat.le_refl _) g9
            have HR9 := Lib.hid r9
            have HC9 := Lib.hid ch9
            clear P8 r8 ch8 B8 g9 r9 ch9
            go_wp2
            go_roundw
            case rel => exact ⟨j + 1, (M' ++ [(ql, zl)]) ++ [(q, z)], by omega, by go_num, by rw [bl_app]; exact HR9.out, HC9.out, HE, (by simp; omega), B9⟩
            case measure => simp [intOf]; omega
    · obtain rfl : len = j := by omega
      have HE := Lib.hid (show zs M = arrL sz (zs L) from by rw [HZ.out, ← HL.out, List.take_length])
      go_wp2
      go_ret
      exact ⟨_, M, rfl, rM, cM, HE.out, B2⟩

end Go.Proofs.YtpbhdlhbcfkhfaaGreat
