/-
  Contract of series.Copy.
-/
import Derived.Test.YtpbhdlhbcfkhfaaGreatSChunks
namespace Go.Proofs.YtpbhdlhbcfkhfaaGreat
open Go.RowKit
set_option linter.unusedVariables false
set_option linter.unusedSimpArgs false

/-- Another series, with the same. -/
def CopyP (sz : Int) (s : Ser) (w : World) (e : Ending) (w' : World) : Prop := ∃ o, e = .returned (.pointer (some ⟨o, 0, none⟩)) ∧ w.heap.size ≤ o ∧ SerAt w' o sz s ∧ Below w.heap.size w w'

/-- What has been copied of the chunks. -/
def CopyI (sz : Int) (s : Ser) (Z : List (List (Int × Int))) (n j : Nat) (o : Nat) (i : Value) (M : List (Nat × List (Int × Int))) (cu : List Value) (w wr : World) : Prop :=
  j ≤ n ∧ i = .int .i64 (j : Int) ∧ SCell wr o sz s.ret s.pol s.mx s.line (.slice (some ⟨o + 1, 0, none⟩) n n) ∧ wr.heap[o + 1]? = some (.cells cu.toArray 46 (0, 0)) ∧ cu.length = n ∧ cu.take j = (bl M).map ptr ∧ Chs wr sz M ∧ zs M = Z.take j ∧ Below w.heap.size w wr
theorem set_take (cu : List Value) (j : Nat) (v : Value) (xs : List Value) (hj : j < cu.length) (h : cu.take j = xs) : (cu.set j v).take (j + 1) = xs ++ [v] := by
  rw [List.take_succ_eq_append_getElem (by simpa using hj), List.take_set_of_le (by omega), h]
  simp

set_option maxRecDepth 100000 in
set_option maxHeartbeats 2000000 in
theorem copy_ser (b : Nat) (sz : Int) (s : Ser) (w : World) (h : SerAt w b sz s) (hs : 128 ≤ sz) (hn : s.z.length ≤ 100000) :
    Calls Tryz.prog 12 #[.pointer (some ⟨b, 0, none⟩)] w (CopyP sz s w) := by
  obtain ⟨L, ⟨a, cap, hc, hpt, hk⟩, hg, hf⟩ := h
  have hne := good_ne hg
  have hLn : L.length ≤ 100000 := by have := flat_ge hne; rw [hf, zs_len] at this; omega
  have hlz : (zs L).flatten.length ≤ 100000 := by rw [hf]; omega
  have hblt := hc.lt
  have HC := Lib.hid hc
  have HPT := Lib.hid hpt
  have HK := Lib.hid hk
  have HG := Lib.hid hg
  have HF := Lib.hid hf
  obtain ⟨NL, hNL⟩ : ∃ NL, L.length = NL := ⟨_, rfl⟩
  rw [hNL] at HC HPT hLn
  have HNL := Lib.hid hNL
  clear hNL hc hpt hk hg hf hne
  have c0 : w.cell? ⟨b, 0, none⟩ = some (.int .i64 sz) := by rw [cell_of HC.out]; rfl
  have c1 : w.cell? ⟨b, 1, none⟩ = some (.int .i64 s.ret) := by rw [cell_of HC.out]; rfl
  have c2 : w.cell? ⟨b, 2, none⟩ = some (.int .i64 s.pol) := by rw [cell_of HC.out]; rfl
  have c3 : w.cell? ⟨b, 3, none⟩ = some (.int .i64 s.mx) := by rw [cell_of HC.out]; rfl
  have c4 : w.cell? ⟨b, 4, none⟩ = some (.int .i64 s.line) := by rw [cell_of HC.out]; rfl
  have c5 : w.cell? ⟨b, 5, none⟩ = some (.slice a NL cap) := by rw [cell_of HC.out]; rfl
  obtain ⟨i0, hi, hz0, hz1, hz2⟩ := info_parts info_ptr
  go_enter Tryz.func12, Tryz.ntmps12
  go_wp2_with fail
  refine (sNone_no b sz _ _ _ _ _ w HC.out (by omega)).mono ?_
  rintro e w' ⟨rfl, rfl⟩
  have hsz0 : (w.alloc (.cells #[.int .i64 sz, .int .i64 s.ret, .int .i64 s.pol, .int .i64 s.mx, .int .i64 s.line, .slice a NL cap] 52)).heap.size = w.heap.size + 1 := by simp
  have HB0 := Lib.hid ((Below.refl w.heap.size w).alloc (Nat.le_refl _) (.cells #[.int .i64 sz, .int .i64 s.ret, .int .i64 s.pol, .int .i64 s.mx, .int .i64 s.line, .slice a NL cap] 52))
  have HN0 := Lib.hid (heap_new w (.cells #[.int .i64 sz, .int .i64 s.ret, .int .i64 s.pol, .int .i64 s.mx, .int .i64 s.line, .slice a NL cap] 52))
  go_wp2_with (at_make; refine wpList_make_full _ rfl _ _ _ rfl w.heap.size 46 i0 _ 1 Tryz.underlying50 hi hz0 hz1 .i64 .i64 (NL : Int) (NL : Int) NL rfl rfl rfl rfl (by rw [hz2]; omega) (by unfold maxLen; omega) (by simp) ?_; intro W1 o1 g1; have HW1 := Lib.hid (HB0.out.trans ((gb_below_none g1).mono HB0.out.size)); have HN1 : Hid (W1.heap[w.heap.size]? = _) := Lib.hid ((g1.block w.heap.size (heap_lt HN0.out) (by simp)).trans HN0.out); have n5 : W1.cell? ⟨w.heap.size, 5, none⟩ = some (.slice a NL cap) := (by rw [cell_of HN1.out]; rfl); have f5 := frozen_of (o := 5) HN1.out; have b5 : W1.cell? ⟨b, 5, none⟩ = some (.slice a NL cap) := (by rw [HW1.out.cell hblt]; exact c5); have hne5 : b ≠ w.heap.size := (by omega))
  have HS2 := Lib.hid (show SCell (W1.setCell ⟨w.heap.size, 5, none⟩ (.slice (some ⟨w.heap.size + 1, 0, none⟩) NL NL)) w.heap.size sz s.ret s.pol s.mx s.line (.slice (some ⟨w.heap.size + 1, 0, none⟩) NL NL) from heap_set (o := 5) (v := .slice (some ⟨w.heap.size + 1, 0, none⟩) NL NL) HN1.out)
  obtain ⟨cu, hcu, hlc⟩ : ∃ cu : List Value, Hid (W1.heap[w.heap.size + 1]? = some (.cells cu.toArray 46 (0, 0))) ∧ cu.length = NL := by
    rcases o1.2 with ⟨h, _⟩ | ⟨g, cp, cu, h, _, hg, _, _, hsz, _⟩
    · cases h
    · rw [hsz0] at h
      simp only [Value.slice.injEq, Option.some.injEq, Addr.mk.injEq] at h
      obtain ⟨⟨rfl, _⟩, _, rfl⟩ := h
      exact ⟨cu.toList, Lib.hid (by simpa using hg), by simpa using hsz⟩
  have HR2 := Lib.hid (show (W1.setCell ⟨w.heap.size, 5, none⟩ (.slice (some ⟨w.heap.size + 1, 0, none⟩) NL NL)).heap[w.heap.size + 1]? = some (.cells cu.toArray 46 (0, 0)) from by rw [heap_set_ne (by omega)]; exact hcu.out)
  have HW2 := Lib.hid (bel_gb HW1.out HW1.out.size (Nat.le_refl _) (gb_set (gb_refl W1 (some w.heap.size)) 5 (.slice (some ⟨w.heap.size + 1, 0, none⟩) NL NL)))
  have HLC := Lib.hid hlc
  clear o1 g1 n5 f5 b5 hcu hlc hi hz0 hz1 hz2 hsz0 HB0 HN0 HN1 HW1 c0 c1 c2 c3 c4
  generalize W1.setCell ⟨w.heap.size, 5, none⟩ (.slice (some ⟨w.heap.size + 1, 0, none⟩) NL NL) = W2 at *
  go_loopw [23] (fun i wr => ∃ (j : Nat) (M : List (Nat × List (Int × Int))) (cu : List Value), CopyI sz s (zs L) NL j w.heap.size i M cu w wr) (fun i _ => NL - (intOf i).toNat)
  case atStart => exact ⟨0, [], cu, Nat.zero_le _, rfl, HS2.out, HR2.out, HLC.out, rfl, (fun x hx => by cases hx), rfl, HW2.out⟩
  case round =>
    obtain ⟨j, M, cu, hj, rfl, hsc, hrow, hcl, htk, hch, hzm, B2⟩ := hrel
    have s2 := B2.size
    by_cases hjn : j < NL
    · obtain ⟨pb, po, hpe, hpb, x0⟩ := HPT.out.at_ j hjn
      subst hpe
      unfold ptr at x0
      have x1 := (B2.cell (p := ⟨pb, po + j, none⟩) hpb).trans x0
      have hjL : j < L.length := by rw [HNL.out]; exact hjn
      have HQ : Hid (PCk wr.drew ((bl L).getD j 0) sz ((zs L).getD j [])) := Lib.hid ((HK.out.keepB B2.drew).get (i := j) hjL)
      have hzl : ((zs L).getD j []).length ≤ 100000 := Nat.le_trans (flat_len_get _ _) hlz
      have HZN := Lib.hid (show (zs L).take (j + 1) = (zs L).take j ++ [(zs L).getD j []] from by
        rw [List.take_succ_eq_append_getElem (by rw [zs_len]; exact hjL), chunk_get (by rw [zs_len]; exact hjL)])
      have hj0 : (0 : Int) ≤ (j : Int) := by omega
      have hj1 : (j : Int) < (NL : Int) := by omega
      generalize (bl L).getD j 0 = q at *
      generalize (zs L).getD j [] = z at *
      have HSC := Lib.hid hsc
      have HRW := Lib.hid hrow
      have HTK := Lib.hid htk
      have HCH := Lib.hid hch
      have HZM := Lib.hid hzm
      have HCL := Lib.hid hcl
      have hB2 := Lib.hid B2
      have o5 : wr.cell? ⟨w.heap.size, 5, none⟩ = some (.slice (some ⟨w.heap.size + 1, 0, none⟩) NL NL) := by rw [cell_of HSC.out]; rfl
      clear x0 hsc hrow htk hch hzm hcl B2 c5
      go_wp2_with fail
      go_region_with
        (first
          | (go_at_call 31
             (with_reducible refine (copy_ok q sz z _ HQ.out (by omega) (by omega)).mono ?_)
             rintro e W4 ⟨o4, rfl, ho4, k4, b4⟩
             have b4' : Below wr.heap.size wr W4 := (drew_below (w := wr) (w' := wr.drew) ⟨1, rfl⟩).trans b4
             have HB4 := Lib.hid b4'
             have HK4 := Lib.hid k4
             have HR4 := Lib.hid ((b4'.block _ (heap_lt HRW.out)).trans HRW.out)
             have HS4 := Lib.hid ((b4'.block _ (heap_lt HSC.out)).trans HSC.out)
             have o6 : W4.cell? ⟨w.heap.size, 5, none⟩ = some (.slice (some ⟨w.heap.size + 1, 0, none⟩) NL NL) := (by rw [cell_of HS4.out]; rfl)
             have g6 : ∃ u, W4.cell? ⟨w.heap.size + 1, j, none⟩ = some u := ⟨cu[j]'(by rw [HCL.out]; exact hjn), by rw [cell_of HR4.out]; simp [HCL.out, hjn]⟩
             obtain ⟨u6, hu6⟩ := g6
             have f6 := frozen_of (o := j) HR4.out
             clear b4 b4' k4))
      all_goals
        have G5 : W4.grownBy (W4.setCell ⟨w.heap.size + 1, j, none⟩ (ptr o4)) (some (w.heap.size + 1)) := gb_set (gb_refl _ _) _ _
        have HS5 := Lib.hid (show SCell (W4.setCell ⟨w.heap.size + 1, j, none⟩ (ptr o4)) w.heap.size sz s.ret s.pol s.mx s.line (.slice (some ⟨w.heap.size + 1, 0, none⟩) NL NL) from by unfold SCell; rw [heap_set_ne (by omega)]; exact HS4.out)
        have HR5 := Lib.hid (show (W4.setCell ⟨w.heap.size + 1, j, none⟩ (ptr o4)).heap[w.heap.size + 1]? = some (.cells (cu.set j (ptr o4)).toArray 46 (0, 0)) from by
          rw [heap_set HR4.out]; simp)
        have HC5 := Lib.hid (((HCH.out.keepB HB4.out).app (Chs.one HK4.out)).keepP G5 (fun r hr => by cases hr; exact ⟨noSamp_of HR4.out (by decide), _, _, HR4.out⟩))
        have HB5 := Lib.hid (bel_gb (hB2.out.trans (HB4.out.mono s2)) (Nat.le_trans s2 HB4.out.size) (by omega) G5)
        have HT5 := Lib.hid (show (cu.set j (ptr o4)).take (j + 1) = (bl (M ++ [(o4, z)])).map ptr from by
          rw [set_take cu j (ptr o4) _ (by rw [HCL.out]; exact hjn) HTK.out, bl_app, List.map_append]; rfl)
        have HZ5 := Lib.hid (show zs (M ++ [(o4, z)]) = (zs L).take (j + 1) from by rw [zs_app, HZM.out, HZN.out]; rfl)
        have HL5 := Lib.hid (show (cu.set j (ptr o4)).length = NL from by rw [List.length_set]; exact HCL.out)
        unfold ptr at HS5 HR5 HC5 HB5
        clear G5 o5 o6 hu6 f6 x1
        generalize W4.setCell ⟨w.heap.size + 1, j, none⟩ (.pointer (some ⟨o4, 0, none⟩)) = W5 at *
        go_wp2
        go_roundw
        case rel => exact ⟨j + 1, M ++ [(o4, z)], cu.set j (ptr o4), by omega, by go_num, HS5.out, HR5.out, HL5.out, HT5.out, HC5.out, HZ5.out, HB5.out⟩
        case measure => simp [intOf]; omega
    · obtain rfl : NL = j := by omega
      have HZ := Lib.hid (show zs M = zs L from by rw [hzm, ← HNL.out, ← zs_len, List.take_length])
      have HML := Lib.hid (show M.length = NL from by rw [← zs_len, HZ.out, zs_len, HNL.out])
      have HPP := Lib.hid (show Ptrs wr (some ⟨w.heap.size + 1, 0, none⟩) NL NL (bl M) from by
        refine ⟨by rw [bl_len, HML.out], Nat.le_refl _, by omega, ?_⟩
        by_cases h0 : NL = 0
        · exact .inl h0
        · refine .inr ⟨w.heap.size + 1, 0, cu.toArray, (0, 0), rfl, hrow, fun i hi => ?_⟩
          have hcu : cu = (bl M).map ptr := by rw [← htk, ← hcl, List.take_length]
          rw [Nat.zero_add, List.getElem?_toArray, hcu, List.getElem?_map, List.getElem?_eq_getElem hi]; rfl)
      have HSR := Lib.hid (show SerAt wr w.heap.size sz s from ⟨M, ⟨some ⟨w.heap.size + 1, 0, none⟩, NL, by rw [HML.out]; exact hsc, by rw [HML.out]; exact HPP.out, hch⟩, by rw [HZ.out]; exact HG.out, by rw [HZ.out]; exact HF.out⟩)
      clear hsc hrow htk hch hzm hcl c5
      go_wp2
      go_ret
      exact ⟨w.heap.size, rfl, Nat.le_refl _, HSR.out, B2⟩

end Go.Proofs.YtpbhdlhbcfkhfaaGreat
