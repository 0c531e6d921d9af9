/-
  Contracts of series.Get, Last, Len.
-/
import Derived.Test.YtpbhdlhbcfkhfaaGreatSSmall
namespace Go.Proofs.YtpbhdlhbcfkhfaaGreat
open Go.RowKit
set_option linter.unusedVariables false
set_option linter.unusedSimpArgs false

set_option maxRecDepth 100000 in
set_option maxHeartbeats 2000000 in
theorem get_ser (b : Nat) (sz : Int) (s : Ser) (t x er : Int) (w : World) (hG : getL s.z t = (x, er)) (h : SerAt w b sz s) (hs : 128 ≤ sz) (hr : Rising s.z) (hn : s.z.length ≤ 100000) :
    Calls Tryz.prog 13 #[.pointer (some ⟨b, 0, none⟩), .int .i64 t] w fun e w' => e = .returned (.tuple #[.int .i64 x, .int .i64 er]) ∧ Below w.heap.size w w' := by
  obtain ⟨L, ⟨a, cap, hc, hpt, hk⟩, hg, hf⟩ := h
  have hne := good_ne hg
  have hrz : Rising (zs L).flatten := by rw [hf]; exact hr
  have hLn : L.length ≤ 100000 := by have := flat_ge hne; rw [hf, zs_len] at this; omega
  have hlz : (zs L).flatten.length ≤ 1048576 := by rw [hf]; omega
  have hbl := begL_le (zs L) t
  rw [zs_len] at hbl
  have HC := Lib.hid hc
  have HPT := Lib.hid hpt
  have HK := Lib.hid hk
  have HRZ := Lib.hid hrz
  have HNE := Lib.hid hne
  have HA := Lib.hid (show winA (zs L) t t = begL (zs L) t - 1 from by unfold winA; rw [if_neg (by omega)])
  have HB := Lib.hid (show winB (zs L) t t = begL (zs L) t from by unfold winB; rw [if_neg (by omega)])
  have HG : Hid (0 < begL (zs L) t → getL ((zs L).getD (begL (zs L) t - 1) []) t = (x, er)) := Lib.hid (fun h0 => by rw [← get_flat hrz hne (by rw [zs_len]; omega) t, hf]; exact hG)
  have HG0 : Hid (begL (zs L) t = 0 → (x, er) = (0, 5)) := Lib.hid (fun h0 => by rw [← hG, ← hf]; exact get_none hrz hne t h0)
  have hblt := hc.lt
  clear hc hpt hk hrz hne hg hf hG hr
  obtain ⟨k, hkk⟩ : ∃ k, begL (zs L) t = k := ⟨_, rfl⟩
  rw [hkk] at hbl HA HB HG HG0
  clear hkk
  obtain ⟨NL, hNL⟩ : ∃ NL, L.length = NL := ⟨_, rfl⟩
  rw [hNL] at HC HPT hbl hLn
  have HNL := Lib.hid hNL
  clear hNL
  have cw : w.cell? ⟨b, 5, none⟩ = some (.slice a NL cap) := by rw [cell_of HC.out]; rfl
  by_cases hk0 : k = 0
  · subst hk0
    have HX := Lib.hid (HG0.out rfl)
    clear HG HG0
    go_enter Tryz.func13, Tryz.ntmps13
    go_wp2_with fail
    refine (sNone_no b sz _ _ _ _ _ w HC.out (by omega)).mono ?_
    rintro e w' ⟨rfl, rfl⟩
    go_wp2_with fail
    refine (window_any a NL cap L sz t t w HPT.out HK.out (by omega) hlz HRZ.out HNE.out (by omega)).mono ?_
    rintro e W1 ⟨rfl, b1⟩
    rw [HA.out, HB.out]
    go_wp2
    go_ret2
    have := HX.out
    simp only [Prod.mk.injEq] at this
    exact ⟨by rw [this.1, this.2]; rfl, b1⟩
  · have hkl : k - 1 < NL := by omega
    obtain ⟨pb, po, hpe, hpb, x0⟩ := HPT.out.at_ (k - 1) hkl
    subst hpe
    unfold ptr at x0
    have hkL : k - 1 < L.length := by rw [HNL.out]; exact hkl
    have HQ : Hid (PCk w ((bl L).getD (k - 1) 0) sz ((zs L).getD (k - 1) [])) := Lib.hid (HK.out.get (i := k - 1) hkL)
    have HZR := Lib.hid (show Rising ((zs L).getD (k - 1) []) from flat_rising HRZ.out (by rw [chunk_get (by rw [zs_len]; exact hkL)]; exact List.getElem_mem _))
    have hzl : ((zs L).getD (k - 1) []).length ≤ 1048576 := Nat.le_trans (flat_len_get _ _) hlz
    have HGG := Lib.hid (HG.out (by omega))
    clear HG HG0
    generalize (bl L).getD (k - 1) 0 = q at *
    generalize (zs L).getD (k - 1) [] = z at *
    obtain ⟨k', rfl⟩ : ∃ k', k = k' + 1 := ⟨k - 1, by omega⟩
    rw [Nat.add_sub_cancel] at x0 HA
    have hkb : ((k' : Int) == ((k' + 1 : Nat) : Int)) = false := by rw [beq_eq_false_iff_ne]; omega
    have hkb2 : ((k' : Int) == (k' : Int) + 1) = false := by rw [beq_eq_false_iff_ne]; omega
    have hk1 : (0 : Int) ≤ (k' : Int) := by omega
    have hk2 : (k' : Int) < (NL : Int) := by omega
    go_enter Tryz.func13, Tryz.ntmps13
    go_wp2_with fail
    refine (sNone_no b sz _ _ _ _ _ w HC.out (by omega)).mono ?_
    rintro e w' ⟨rfl, rfl⟩
    go_wp2_with fail
    refine (window_any _ NL cap L sz t t w HPT.out HK.out (by omega) hlz HRZ.out HNE.out (by omega)).mono ?_
    rintro e W1 ⟨rfl, b1⟩
    rw [HA.out, HB.out]
    have c1 := (b1.cell (p := ⟨b, 5, none⟩) hblt).trans cw
    have x1 := (b1.cell (p := ⟨pb, po + k', none⟩) hpb).trans x0
    have HQ1 : Hid (PCk W1 q sz z) := Lib.hid (CAt.keepB HQ.out b1)
    go_wp2_with fail
    refine (get_at q sz z t x er _ HGG.out HQ1.out (by omega) HZR.out hzl).mono ?_
    rintro e W2 ⟨rfl, b2⟩
    have B2 := b1.trans (b2.mono b1.size)
    clear c1 x1 b1 b2
    go_wp2
    go_ret2
    exact ⟨rfl, B2⟩

theorem last_flat {Z : List (List (Int × Int))} (h0 : 0 < Z.length) (hn : ∀ z ∈ Z, z ≠ []) : tOf Z.flatten (Z.flatten.length - 1) = tOf (Z.getD (Z.length - 1) []) ((Z.getD (Z.length - 1) []).length - 1) ∧ vOf Z.flatten (Z.flatten.length - 1) = vOf (Z.getD (Z.length - 1) []) ((Z.getD (Z.length - 1) []).length - 1) := by
  have h1 : Z.length - 1 < Z.length := by omega
  have e : Z.flatten = (Z.take (Z.length - 1)).flatten ++ Z.getD (Z.length - 1) [] := by
    rw [← take_flat Z (Z.length - 1) h1, show Z.length - 1 + 1 = Z.length from by omega, List.take_length]
  have hp : 0 < (Z.getD (Z.length - 1) []).length := by
    have := hn (Z.getD (Z.length - 1) []) (by rw [chunk_get h1]; exact List.getElem_mem h1)
    cases hz : Z.getD (Z.length - 1) [] with
    | nil => exact absurd hz this
    | cons a l => simp
  generalize Z.getD (Z.length - 1) [] = y at *
  generalize (Z.take (Z.length - 1)).flatten = x at *
  rw [e]
  have := getD_app_right x y ((x ++ y).length - 1) (by rw [List.length_append]; omega)
  rw [show (x ++ y).length - 1 - x.length = y.length - 1 from by rw [List.length_append]; omega] at this
  exact ⟨by unfold tOf; rw [this], by unfold vOf; rw [this]⟩

set_option maxRecDepth 100000 in
set_option maxHeartbeats 2000000 in
theorem last_ser (b : Nat) (sz : Int) (s : Ser) (w : World) (h : SerAt w b sz s) (hs : 128 ≤ sz) (hn : s.z.length ≤ 100000) :
    Calls Tryz.prog 37 #[.pointer (some ⟨b, 0, none⟩)] w (EndP s.z (s.z.length - 1) w) := by
  obtain ⟨L, ⟨a, cap, hc, hpt, hk⟩, hg, hf⟩ := h
  have hne := good_ne hg
  have hLn : L.length ≤ 100000 := by have := flat_ge hne; rw [hf, zs_len] at this; omega
  have hlz : (zs L).flatten.length ≤ 1048576 := by rw [hf]; omega
  have B0 := (Below.refl w.heap.size w).alloc (Nat.le_refl _) (.cells #[.int .i64 0, .int .i64 0] 33)
  have hn0 := heap_new w (.cells #[.int .i64 0, .int .i64 0] 33)
  have hblt := hc.lt
  have s0 : w.heap.size < (w.alloc (.cells #[.int .i64 0, .int .i64 0] 33)).heap.size := by simp
  have HC := Lib.hid (hc.keep (World.grownBy_alloc w (.cells #[.int .i64 0, .int .i64 0] 33) none) (by simp))
  have HK := Lib.hid (hk.keepN (World.grownBy_alloc w (.cells #[.int .i64 0, .int .i64 0] 33) none))
  have HPT := Lib.hid (hpt.keepN (World.grownBy_alloc w (.cells #[.int .i64 0, .int .i64 0] 33) none))
  have HN := Lib.hid hn0
  by_cases hL : L.length = 0
  · have hL' : L = [] := List.eq_nil_of_length_eq_zero hL
    subst hL'
    have hz : s.z = [] := by rw [← hf]; rfl
    rw [hz]
    clear hz hL hc hpt hk hf hn0
    go_enter Tryz.func37, Tryz.ntmps37
    go_wp2_with fail
    generalize w.alloc (.cells #[.int .i64 0, .int .i64 0] 33) = W1 at *
    refine (slist_cell b sz _ _ _ _ a 0 cap W1 HC.out (by omega)).mono ?_
    rintro e w' ⟨rfl, rfl⟩
    have c0 : W1.cell? ⟨w.heap.size, 0, none⟩ = some (.int .i64 0) := by rw [cell_of HN.out]; rfl
    have c1 : W1.cell? ⟨w.heap.size, 1, none⟩ = some (.int .i64 0) := by rw [cell_of HN.out]; rfl
    have f0 := frozen_of (o := 0) HN.out
    have f1 := frozen_of (o := 1) HN.out
    go_wp2
    have r0 := heap_set (o := 0) (v := .int .i64 0) HN.out
    have r1 := heap_set (o := 1) (v := .int .i64 0) r0
    have j0 := (cell_of (o := 0) r1).trans (by rfl : _ = some (Value.int .i64 0))
    have j1 := (cell_of (o := 1) r1).trans (by rfl : _ = some (Value.int .i64 0))
    clear r0 r1
    exact bodyPost_ret (v := .tuple #[.agg #[.int .i64 0, .int .i64 0], .bool false]) (by simp [results, Tryz.results37, go_sem, j0, j1]) rfl ⟨rfl, (B0.setCell (Nat.le_refl _) _).setCell (Nat.le_refl _) _⟩
  · have HE := Lib.hid (last_flat (by rw [zs_len]; omega) hne)
    rw [hf] at HE
    have hz0 : 0 < s.z.length := by have := flat_ge hne; rw [hf, zs_len] at this; omega
    obtain ⟨NL, hNL⟩ : ∃ NL, L.length = NL + 1 := ⟨L.length - 1, by omega⟩
    rw [zs_len, hNL, Nat.add_sub_cancel] at HE
    have hkL : NL < L.length := by omega
    have HQ : Hid (PCk _ ((bl L).getD NL 0) sz ((zs L).getD NL [])) := Lib.hid (HK.out.get (i := NL) hkL)
    have hzl : ((zs L).getD NL []).length ≤ 1048576 := Nat.le_trans (flat_len_get _ _) hlz
    rw [hNL] at HC HPT hLn
    obtain ⟨pb, po, hpe, hpb, x0⟩ := HPT.out.at_ NL (by omega)
    subst hpe
    have HX0 := Lib.hid x0
    have HHZ := Lib.hid (show decide (0 < s.z.length) = true from by simp; omega)
    have HZP := Lib.hid (show decide (0 < ((zs L).getD NL []).length) = true from by
      have := hne ((zs L).getD NL []) (by rw [chunk_get (by rw [zs_len]; exact hkL)]; exact List.getElem_mem _)
      cases hz : (zs L).getD NL [] with
      | nil => exact absurd hz this
      | cons a l => simp)
    clear hc hpt hk hf hn0 hNL x0 hL
    unfold EndP
    rw [HE.out.1, HE.out.2, HHZ.out]
    generalize (bl L).getD NL 0 = q at *
    generalize (zs L).getD NL [] = z at *
    obtain ⟨T, hT⟩ : ∃ T, tOf z (z.length - 1) = T := ⟨_, rfl⟩
    obtain ⟨V, hV⟩ : ∃ V, vOf z (z.length - 1) = V := ⟨_, rfl⟩
    rw [hT, hV]
    have HT := Lib.hid hT
    have HV := Lib.hid hV
    clear hT hV
    have hne0 : (((NL + 1 : Nat) : Int) == 0) = false := by rw [beq_eq_false_iff_ne]; omega
    have hq : ((NL + 1 : Nat) : Int) - 1 = (NL : Int) := by omega
    have hq0 : (0 : Int) ≤ (NL : Int) := by omega
    go_enter Tryz.func37, Tryz.ntmps37
    go_wp2_with fail
    generalize w.alloc (.cells #[.int .i64 0, .int .i64 0] 33) = W1 at *
    refine (slist_cell b sz _ _ _ _ _ _ cap W1 HC.out (by omega)).mono ?_
    rintro e w' ⟨rfl, rfl⟩
    have x0 := HX0.out
    unfold ptr at x0
    go_wp2_with fail
    refine (end_at HT.out HV.out HZP.out (last_ok q sz z W1 HQ.out (by omega) hzl)).mono ?_
    rintro e W2 ⟨rfl, b2⟩
    have HN2 := Lib.hid ((b2.block w.heap.size s0).trans HN.out)
    have B2 := B0.trans (b2.mono B0.size)
    have c0 : W2.cell? ⟨w.heap.size, 0, none⟩ = some (.int .i64 0) := by rw [cell_of HN2.out]; rfl
    have c1 : W2.cell? ⟨w.heap.size, 1, none⟩ = some (.int .i64 0) := by rw [cell_of HN2.out]; rfl
    have f0 := frozen_of (o := 0) HN2.out
    have f1 := frozen_of (o := 1) HN2.out
    clear x0 b2
    go_wp2
    have r0 := heap_set (o := 0) (v := .int .i64 T) HN2.out
    have r1 := heap_set (o := 1) (v := .int .i64 V) r0
    have j0 := (cell_of (o := 0) r1).trans (by rfl : _ = some (Value.int .i64 T))
    have j1 := (cell_of (o := 1) r1).trans (by rfl : _ = some (Value.int .i64 V))
    clear r0 r1
    exact bodyPost_ret (v := .tuple #[.agg #[.int .i64 T, .int .i64 V], .bool true]) (by simp [results, Tryz.results37, go_sem, j0, j1]) rfl ⟨rfl, (B2.setCell (Nat.le_refl _) _).setCell (Nat.le_refl _) _⟩

set_option maxRecDepth 100000 in
set_option maxHeartbeats 2000000 in
theorem len_ser (b : Nat) (sz : Int) (s : Ser) (w : World) (h : SerAt w b sz s) (hs : 128 ≤ sz) (hn : s.z.length ≤ 100000) :
    Calls Tryz.prog 41 #[.pointer (some ⟨b, 0, none⟩)] w fun e w' => e = .returned (.int .i64 (s.z.length : Int)) ∧ w = w' := by
  obtain ⟨L, ⟨a, cap, hc, hpt, hk⟩, hg, hf⟩ := h
  have hne := good_ne hg
  have hLn : L.length ≤ 100000 := by have := flat_ge hne; rw [hf, zs_len] at this; omega
  have HC := Lib.hid hc
  have HPT := Lib.hid hpt
  have HK := Lib.hid hk
  have HALL := Lib.hid (show sumTo (zs L) L.length = s.z.length from by rw [← zs_len, sumTo_all, hf])
  have HLE := Lib.hid (show ∀ j, sumTo (zs L) j ≤ 100000 from fun j => by have := sumTo_le (zs L) j; rw [hf] at this; omega)
  clear hc hpt hk hf hg hne
  obtain ⟨NL, hNL⟩ : ∃ NL, L.length = NL := ⟨_, rfl⟩
  rw [hNL] at HC HPT hLn HALL
  have HNL := Lib.hid hNL
  clear hNL
  go_enter Tryz.func41, Tryz.ntmps41
  go_wp2_with fail
  refine (slist_cell b sz _ _ _ _ a NL cap w HC.out (by omega)).mono ?_
  rintro e w' ⟨rfl, rfl⟩
  go_wp2_with fail
  go_loop [3, 9] (fun m i => ∃ j : Nat, j ≤ NL ∧ i = .int .i64 (j : Int) ∧ m = .int .i64 (sumTo (zs L) j : Int)) (fun _ i => NL - (intOf i).toNat)
  case atStart => exact ⟨0, Nat.zero_le _, rfl, by simp [sumTo]⟩
  case round =>
    obtain ⟨j, hj, rfl, rfl⟩ := hrel
    by_cases hjn : j < NL
    · obtain ⟨pb, po, hpe, hpb, x0⟩ := HPT.out.at_ j hjn
      subst hpe
      unfold ptr at x0
      have hjL : j < L.length := by rw [HNL.out]; exact hjn
      have HQ : Hid (PCk w ((bl L).getD j 0) sz ((zs L).getD j [])) := Lib.hid (HK.out.get (i := j) hjL)
      have HS := Lib.hid (sumTo_succ (zs L) j (by rw [zs_len]; exact hjL))
      have h1 := HLE.out j
      have h2 := HLE.out (j + 1)
      rw [HS.out] at h2
      have hj0 : (0 : Int) ≤ (j : Int) := by omega
      have hj1 : (j : Int) < (NL : Int) := by omega
      generalize (bl L).getD j 0 = q at *
      generalize (zs L).getD j [] = z at *
      generalize sumTo (zs L) j = sm at *
      go_wp2_with fail
      refine (len_ok q sz z _ HQ.out (by omega)).mono ?_
      rintro e w' ⟨rfl, rfl⟩
      generalize z.length = m at *
      go_wp2
      go_round
      case rel => exact ⟨j + 1, by omega, by go_num, by rw [HS.out]; go_num⟩
      case measure => simp [intOf]; omega
    · obtain rfl : NL = j := by omega
      rw [HALL.out]
      go_wp2
      go_ret
      exact ⟨rfl, rfl⟩

end Go.Proofs.YtpbhdlhbcfkhfaaGreat
