/-
  The statement 'SpaceIncr' of layer 12: an increment adds to the last value, at a time that is not ahead of it.
  No condition on the arguments.
-/
import Derived.Test.YtmifpfojhlmbkaaGreatJ0
import Derived.Test.YtmifpfojhlmbkaaGreatJ1
import Derived.Test.YtmifpfojhlmbkaaGreatJ2
import Derived.Test.YtmifpfojhlmbkaaGreatJ3
import Derived.Test.YtmifpfojhlmbkaaGreatJ4
import Derived.Test.YtmifpfojhlmbkaaGreatJ5
import Derived.Test.YtmifpfojhlmbkaaGreatJ6
import Derived.Test.YtmifpfojhlmbkaaGreatJ7
import Derived.Test.YtmifpfojhlmbkaaGreatJ8
import Derived.Test.YtmifpfojhlmbkaaGreatJ9
import Derived.Test.YtmifpfojhlmbkaaGreatJ10
import Derived.Test.YtmifpfojhlmbkaaGreatJ11
import Derived.Test.YtmifpfojhlmbkaaGreatJ12
import Derived.Test.YtmifpfojhlmbkaaGreatJ13
import Derived.Test.YtmifpfojhlmbkaaGreatJ14
import Derived.Test.YtmifpfojhlmbkaaGreatJ15
import Derived.Test.YtmifpfojhlmbkaaGreatJ16
import Derived.Test.YtmifpfojhlmbkaaGreatJ17
import Derived.Test.YtmifpfojhlmbkaaGreatJ18
import Derived.Test.YtmifpfojhlmbkaaGreatJ19
import Derived.Test.YtmifpfojhlmbkaaGreatJ20
import Derived.Test.YtmifpfojhlmbkaaGreatJ21
import Derived.Test.YtmifpfojhlmbkaaGreatJ22
import Derived.Test.YtmifpfojhlmbkaaGreatJ23
import Derived.Test.YtmifpfojhlmbkaaGreatJ24
import Derived.Test.YtmifpfojhlmbkaaGreatJ25
import Derived.Test.YtmifpfojhlmbkaaGreatJ26
import Derived.Test.YtmifpfojhlmbkaaGreatJ27
import Derived.Test.YtmifpfojhlmbkaaGreatJ28
import Derived.Test.YtmifpfojhlmbkaaGreatJ29
import Derived.Test.YtmifpfojhlmbkaaGreatJ30
import Derived.Test.YtmifpfojhlmbkaaGreatJ31
import Derived.Test.YtmifpfojhlmbkaaGreatJ32
import Derived.Test.YtmifpfojhlmbkaaGreatJ33
import Derived.Test.YtmifpfojhlmbkaaGreatJ34
import Derived.Test.YtmifpfojhlmbkaaGreatJ35
import Derived.Test.YtmifpfojhlmbkaaGreatJ36
import Derived.Test.YtmifpfojhlmbkaaGreatJ37
import Derived.Test.YtmifpfojhlmbkaaGreatJ38
import Derived.Test.YtmifpfojhlmbkaaGreatJ39
import Derived.Test.YtmifpfojhlmbkaaGreatJ40
import Derived.Test.YtmifpfojhlmbkaaGreatJ41
import Derived.Test.YtmifpfojhlmbkaaGreatJ42
import Derived.Test.YtmifpfojhlmbkaaGreatJ43
import Derived.Test.YtmifpfojhlmbkaaGreatJ44
import Derived.Test.YtmifpfojhlmbkaaGreatJ45
import Derived.Test.YtmifpfojhlmbkaaGreatJ46
import Derived.Test.YtmifpfojhlmbkaaGreatJ47
import Derived.Test.YtmifpfojhlmbkaaGreatJ48
import Derived.Test.YtmifpfojhlmbkaaGreatRows
import Derived.ChangeOld
namespace Go.Proofs.YtmifpfojhlmbkaaGreat
set_option maxRecDepth 100000
set_option maxHeartbeats 16000000
set_option linter.unusedVariables false
set_option linter.unusedSimpArgs false
theorem getL_parts {x y u : List (Int × Int)} {t : Int} (hy : Rising y) (hx : ∀ a ∈ x, a.1 < t) (hu : ∀ a ∈ u, t < a.1) : getL (x ++ y ++ u) t = getL y t := by
  have h2 := upt_le y t
  unfold getL
  rw [bef_parts hy hx hu, upt_parts hy hx hu]
  by_cases h : bef y t < upt y t
  · rw [if_pos h, if_pos (by omega), vOf3_mid x y u _ (by omega)]
  · rw [if_neg h, if_neg (by omega)]
end Go.Proofs.YtmifpfojhlmbkaaGreat
namespace Go.Proofs.YtmifpfojhlmbkaaGreat
set_option maxRecDepth 100000
set_option maxHeartbeats 16000000
open Go.RowKit
set_option linter.unusedVariables false
set_option linter.unusedSimpArgs false
def PairP (x : Int × Int) (w : World) (e : Ending) (w' : World) : Prop := e = .returned (two x) ∧ Below w.heap.size w w'
theorem get_ok4 (b : Nat) (sz : Int) (z : List (Int × Int)) (t : Int) (w : World) (h : PCk w b sz z) (hs : 1 ≤ sz) (hr : Rising z) (hn : z.length ≤ 1048576) :
    Calls Tryz.prog 70 #[.pointer (some ⟨b, 0, none⟩), .int .i64 t] w (PairP (getL z t) w) := by
  obtain ⟨a, cap, hc, hl⟩ := h
  have HC := Lib.hid hc
  have HL := Lib.hid hl
  have hb := heap_lt hc
  have c1 : w.cell? ⟨b, 1, none⟩ = some (.slice a z.length cap) := by rw [cell_of hc]; rfl
  have HR := Lib.hid hr
  have hle := bef_le z t
  have HAT := Lib.hid (at_time hr t)
  have HG := Lib.hid (show getL z t = if bef z t < upt z t then (vOf z (bef z t), 0) else (0, 5) from rfl)
  clear hc hl hr
  by_cases h1 : bef z t = z.length
  · have HK := Lib.hid h1
    have HNO := Lib.hid (show getL z t = (0, 5) from by rw [HG.out, if_neg (fun e => by have := HAT.out.1 e; omega)])
    have hq : (((bef z t : Nat) : Int) == ((z.length : Nat) : Int)) = true := by simp [h1]
    clear h1 hle
    go_enter Tryz.func70, Tryz.ntmps70
    go_wp2_with fail
    refine (isNone_no b sz _ _ HC.out hs).mono ?_
    rintro e w' ⟨rfl, rfl⟩
    go_wp2_with fail
    refine (before_any a _ cap z t _ HL.out HR.out hn).mono ?_
    rintro e w' ⟨rfl, b1⟩
    rw [← b1.cell hb] at c1
    generalize bef z t = k at *
    go_wp2
    go_ret2
    exact ⟨by rw [HNO.out]; rfl, b1⟩
  · have h1' : bef z t < z.length := by omega
    have hq : (((bef z t : Nat) : Int) == ((z.length : Nat) : Int)) = false := by rw [beq_eq_false_iff_ne]; omega
    obtain ⟨p, o, rfl, hp, x0, x1⟩ := HL.out.1.at_ (bef z t) h1'
    by_cases h2 : tOf z (bef z t) = t
    · have HV := Lib.hid (show getL z t = (vOf z (bef z t), 0) from by rw [HG.out, if_pos (HAT.out.2 ⟨h1', h2⟩)])
      have hq2 : (t != t) = false := by simp
      rw [h2] at x0
      clear h1 hle h2
      go_enter Tryz.func70, Tryz.ntmps70
      go_wp2_with fail
      refine (isNone_no b sz _ _ HC.out hs).mono ?_
      rintro e w' ⟨rfl, rfl⟩
      go_wp2_with fail
      refine (before_any _ _ cap z t _ HL.out HR.out hn).mono ?_
      rintro e w' ⟨rfl, b1⟩
      rw [← b1.cell hb] at c1
      rw [← b1.cell hp] at x0 x1
      generalize vOf z (bef z t) = v at *
      generalize bef z t = k at *
      go_wp2
      go_ret2
      exact ⟨by rw [HV.out]; rfl, b1⟩
    · have HNO := Lib.hid (show getL z t = (0, 5) from by rw [HG.out, if_neg (fun e => h2 (HAT.out.1 e).2)])
      have hq2 : (tOf z (bef z t) != t) = true := by rw [bne_iff_ne]; exact h2
      clear h1 hle h2
      go_enter Tryz.func70, Tryz.ntmps70
      go_wp2_with fail
      refine (isNone_no b sz _ _ HC.out hs).mono ?_
      rintro e w' ⟨rfl, rfl⟩
      go_wp2_with fail
      refine (before_any _ _ cap z t _ HL.out HR.out hn).mono ?_
      rintro e w' ⟨rfl, b1⟩
      rw [← b1.cell hb] at c1
      rw [← b1.cell hp] at x0 x1
      generalize tOf z (bef z t) = tt at *
      generalize bef z t = k at *
      go_wp2
      go_ret2
      exact ⟨by rw [HNO.out]; rfl, b1⟩
end Go.Proofs.YtmifpfojhlmbkaaGreat
namespace Go.Proofs.YtmifpfojhlmbkaaGreat
set_option maxRecDepth 100000
set_option maxHeartbeats 16000000
open Go.RowKit
set_option linter.unusedVariables false
set_option linter.unusedSimpArgs false
theorem get_at (b : Nat) (sz : Int) (z : List (Int × Int)) (t x er : Int) (w : World) (hG : getL z t = (x, er)) (h : PCk w b sz z) (hs : 1 ≤ sz) (hr : Rising z) (hn : z.length ≤ 1048576) :
    Calls Tryz.prog 70 #[.pointer (some ⟨b, 0, none⟩), .int .i64 t] w fun e w' => e = .returned (.tuple #[.int .i64 x, .int .i64 er]) ∧ Below w.heap.size w w' := by
  have := get_ok4 b sz z t w h hs hr hn
  rw [hG] at this
  exact this
end Go.Proofs.YtmifpfojhlmbkaaGreat
namespace Go.Proofs.YtmifpfojhlmbkaaGreat
set_option maxRecDepth 100000
set_option maxHeartbeats 16000000
set_option linter.unusedVariables false
set_option linter.unusedSimpArgs false
theorem get_flat {Z : List (List (Int × Int))} (hr : Rising Z.flatten) (hn : ∀ z ∈ Z, z ≠ []) (h0 : 0 < Z.length) (T : Int) :
    getL Z.flatten T = getL (Z.getD (begL Z T - 1) []) T := by
  obtain ⟨h1, h2, h3⟩ := put_place hr hn h0 T
  have hy : Rising (Z.getD (begL Z T - 1) []) := flat_rising hr (by rw [chunk_get h1]; exact List.getElem_mem h1)
  have e : Z.flatten = (Z.take (begL Z T - 1)).flatten ++ Z.getD (begL Z T - 1) [] ++ (Z.drop (begL Z T - 1 + 1)).flatten := by
    conv => lhs; rw [split_at h1]
    simp
  rw [e]; exact getL_parts hy h2 h3
theorem get_none {Z : List (List (Int × Int))} (hr : Rising Z.flatten) (hn : ∀ z ∈ Z, z ≠ []) (T : Int) (h : begL Z T = 0) : getL Z.flatten T = (0, 5) := by
  refine getL_no hr fun x hx => ?_
  have := beg_behind hr hn T x (by rw [h, List.drop_zero]; exact hx)
  omega
end Go.Proofs.YtmifpfojhlmbkaaGreat
namespace Go.Proofs.YtmifpfojhlmbkaaGreat
set_option maxRecDepth 100000
set_option maxHeartbeats 16000000
open Go.RowKit
set_option linter.unusedVariables false
set_option linter.unusedSimpArgs false
theorem sNone_nil (w : World) : Calls Tryz.prog 68 #[.pointer none] w fun e w' => e = .returned (.bool true) ∧ w = w' := by
  go_enter Tryz.func68, Tryz.ntmps68
  go_wp2
  go_ret
  exact ⟨rfl, rfl⟩
end Go.Proofs.YtmifpfojhlmbkaaGreat
namespace Go.Proofs.YtmifpfojhlmbkaaGreat
set_option maxRecDepth 100000
set_option maxHeartbeats 16000000
open Go.RowKit
set_option linter.unusedVariables false
set_option linter.unusedSimpArgs false
theorem get_ser (b : Nat) (sz : Int) (s : Ser) (t x er : Int) (w : World) (hG : getL s.z t = (x, er)) (h : SerAt w b sz s) (hs : 128 ≤ sz) (hr : Rising s.z) (hn : s.z.length ≤ 100000) :
    Calls Tryz.prog 24 #[.pointer (some ⟨b, 0, none⟩), .int .i64 t] w fun e w' => e = .returned (.tuple #[.int .i64 x, .int .i64 er]) ∧ Below w.heap.size w w' := by
  obtain ⟨L, ⟨a, cap, hc, hpt, hk⟩, hg, hf⟩ := h
  have hne := good_ne hg
  have hrz : Rising (zs L).flatten := by rw [hf]; exact hr
  have hLn : L.length ≤ 100000 := by have := flat_ge hne; rw [hf, zs_len] at this; omega
  have hlz : (zs L).flatten.length ≤ 1048576 := by rw [hf]; omega
  have hbl := begL_le (zs L) t
  rw [zs_len] at hbl
  have HC := Lib.hid hc
  have HPT := Lib.hid hpt
  have HK := Lib.hid hk
  have HRZ := Lib.hid hrz
  have HNE := Lib.hid hne
  have HA := Lib.hid (show winA (zs L) t t = begL (zs L) t - 1 from by unfold winA; rw [if_neg (by omega)])
  have HB := Lib.hid (show winB (zs L) t t = begL (zs L) t from by unfold winB; rw [if_neg (by omega)])
  have HG : Hid (0 < begL (zs L) t → getL ((zs L).getD (begL (zs L) t - 1) []) t = (x, er)) := Lib.hid (fun h0 => by rw [← get_flat hrz hne (by rw [zs_len]; omega) t, hf]; exact hG)
  have HG0 : Hid (begL (zs L) t = 0 → (x, er) = (0, 5)) := Lib.hid (fun h0 => by rw [← hG, ← hf]; exact get_none hrz hne t h0)
  have hblt := hc.lt
  clear hc hpt hk hrz hne hg hf hG hr
  obtain ⟨k, hkk⟩ : ∃ k, begL (zs L) t = k := ⟨_, rfl⟩
  rw [hkk] at hbl HA HB HG HG0
  clear hkk
  obtain ⟨NL, hNL⟩ : ∃ NL, L.length = NL := ⟨_, rfl⟩
  rw [hNL] at HC HPT hbl hLn
  have HNL := Lib.hid hNL
  clear hNL
  have cw : w.cell? ⟨b, 5, none⟩ = some (.slice a NL cap) := by rw [cell_of HC.out]; rfl
  by_cases hk0 : k = 0
  · subst hk0
    have HX := Lib.hid (HG0.out rfl)
    clear HG HG0
    go_enter Tryz.func24, Tryz.ntmps24
    go_wp2_with fail
    refine (sNone_no b sz _ _ _ _ _ w HC.out (by omega)).mono ?_
    rintro e w' ⟨rfl, rfl⟩
    go_wp2_with fail
    refine (window_any a NL cap L sz t t w HPT.out HK.out (by omega) hlz HRZ.out HNE.out (by omega)).mono ?_
    rintro e W1 ⟨rfl, b1⟩
    rw [HA.out, HB.out]
    go_wp2
    go_ret2
    have := HX.out
    simp only [Prod.mk.injEq] at this
    exact ⟨by rw [this.1, this.2]; rfl, b1⟩
  · have hkl : k - 1 < NL := by omega
    obtain ⟨pb, po, hpe, hpb, x0⟩ := HPT.out.at_ (k - 1) hkl
    subst hpe
    unfold ptr at x0
    have hkL : k - 1 < L.length := by rw [HNL.out]; exact hkl
    have HQ : Hid (PCk w ((bl L).getD (k - 1) 0) sz ((zs L).getD (k - 1) [])) := Lib.hid (HK.out.get (i := k - 1) hkL)
    have HZR := Lib.hid (show Rising ((zs L).getD (k - 1) []) from flat_rising HRZ.out (by rw [chunk_get (by rw [zs_len]; exact hkL)]; exact List.getElem_mem _))
    have hzl : ((zs L).getD (k - 1) []).length ≤ 1048576 := Nat.le_trans (flat_len_get _ _) hlz
    have HGG := Lib.hid (HG.out (by omega))
    clear HG HG0
    generalize (bl L).getD (k - 1) 0 = q at *
    generalize (zs L).getD (k - 1) [] = z at *
    obtain ⟨k', rfl⟩ : ∃ k', k = k' + 1 := ⟨k - 1, by omega⟩
    rw [Nat.add_sub_cancel] at x0 HA
    have hkb : ((k' : Int) == ((k' + 1 : Nat) : Int)) = false := by rw [beq_eq_false_iff_ne]; omega
    have hkb2 : ((k' : Int) == (k' : Int) + 1) = false := by rw [beq_eq_false_iff_ne]; omega
    have hk1 : (0 : Int) ≤ (k' : Int) := by omega
    have hk2 : (k' : Int) < (NL : Int) := by omega
    go_enter Tryz.func24, Tryz.ntmps24
    go_wp2_with fail
    refine (sNone_no b sz _ _ _ _ _ w HC.out (by omega)).mono ?_
    rintro e w' ⟨rfl, rfl⟩
    go_wp2_with fail
    refine (window_any _ NL cap L sz t t w HPT.out HK.out (by omega) hlz HRZ.out HNE.out (by omega)).mono ?_
    rintro e W1 ⟨rfl, b1⟩
    rw [HA.out, HB.out]
    have c1 := (b1.cell (p := ⟨b, 5, none⟩) hblt).trans cw
    have x1 := (b1.cell (p := ⟨pb, po + k', none⟩) hpb).trans x0
    have HQ1 : Hid (PCk W1 q sz z) := Lib.hid (CAt.keepB HQ.out b1)
    go_wp2_with fail
    refine (get_at q sz z t x er _ HGG.out HQ1.out (by omega) HZR.out hzl).mono ?_
    rintro e W2 ⟨rfl, b2⟩
    have B2 := b1.trans (b2.mono b1.size)
    clear c1 x1 b1 b2
    go_wp2
    go_ret2
    exact ⟨rfl, B2⟩
end Go.Proofs.YtmifpfojhlmbkaaGreat
namespace Go.Proofs.YtmifpfojhlmbkaaGreat
set_option maxRecDepth 100000
set_option maxHeartbeats 16000000
open Go.RowKit
set_option linter.unusedVariables false
set_option linter.unusedSimpArgs false
theorem scopy_nil12 (w : World) : Calls Tryz.prog 61 #[.pointer none] w fun e w' => e = .returned (.pointer none) ∧ w = w' := by
  go_enter Tryz.func61, Tryz.ntmps61
  go_wp2_with fail
  refine (sNone_nil w).mono ?_
  rintro e w' ⟨rfl, rfl⟩
  go_wp2
  go_ret
  exact ⟨rfl, rfl⟩
theorem hSeries_no (w : World) (x : Nat) (m : Mem) (P : Spc) (k : Tx) (h : SpAt w x m P) (hk : ¬ P.has k) :
    Calls Tryz.prog 19 #[.pointer (some ⟨x, 0, none⟩), .string (bs k)] w fun e w' => e = .returned (.pointer none) ∧ Below w.heap.size w w' := by
  have HF := Lib.hid (hFind_no w x m P k h hk)
  clear h hk
  go_enter Tryz.func19, Tryz.ntmps19
  go_wp2_with fail
  refine HF.out.mono ?_
  rintro e w1 ⟨rfl, b1⟩
  have B1 := Lib.hid b1
  clear b1
  go_wp2_with fail
  refine (scopy_nil12 _).mono ?_
  rintro e w' ⟨rfl, rfl⟩
  go_wp2
  go_ret
  exact ⟨rfl, B1.out⟩
end Go.Proofs.YtmifpfojhlmbkaaGreat
namespace Go.Proofs.YtmifpfojhlmbkaaGreat
set_option maxRecDepth 100000
set_option maxHeartbeats 16000000
set_option linter.unusedVariables false
set_option linter.unusedSimpArgs false
theorem getL_added {s : Ser} (hs : Std s) {T V p : Int} (he : addE s T V p = 0) : getL (addS5 s T V p).z T = ((newV s.z T V (polS s p)).1, 0) := by
  have hT : s.line ≤ T := by
    unfold addE at he
    split at he
    · omega
    · split at he <;> omega
  have hr := hs.lr
  unfold addS5
  rw [if_pos he, get_trim (insL_rising hs.rise _ _)]
  · exact getL_ins hs.rise _ _
  · show lineS _ ≤ T
    unfold lineS
    simp only
    split <;> omega
theorem pol3 (s : Ser) : polS s 3 = 3 := if_neg (by decide)
theorem getL_added3 {s : Ser} (hs : Std s) {T V : Int} (he : addE s T V 3 = 0) : getL (addS5 s T V 3).z T = (V, 0) := by
  rw [getL_added hs he, pol3, newV_last]
theorem wrote_at {P : Spc} (h : Ok12 P) {k : Tx} (hw : wErr P k = 0) (T V p : Int) : (wrote P k T V p).S k = addS5 (P.S k) T V p :=
  (remK_at h (wErr_ok hw).2 _ _).2.2.2
theorem iErr_parts {P : Spc} {k : Tx} {t b : Int} (he : iErr P k t b = 0) : wErr P k = 0 ∧ (raiE (P.S k) t b).2 = 0 ∧ addE (P.S k) t (raiE (P.S k) t b).1 3 = 0 := by
  unfold iErr at he
  by_cases hw : wErr P k = 0
  · rw [if_neg (by simpa using hw)] at he
    by_cases h2 : (raiE (P.S k) t b).2 = 0
    · rw [if_neg (by simpa using h2)] at he
      exact ⟨hw, h2, he⟩
    · rw [if_pos h2] at he; exact absurd he h2
  · rw [if_pos hw] at he; exact absurd he hw
theorem raiE_parts {s : Ser} {t b : Int} (h : (raiE s t b).2 = 0) : ¬ (t < 0 ∨ 1099511627776 ≤ t) ∧ lastT s ≤ t ∧ addS (lastV s) b = ((raiE s t b).1, 0) := by
  unfold raiE at h ⊢
  by_cases h1 : t < 0 ∨ 1099511627776 ≤ t
  · rw [if_pos h1] at h; simp at h
  · rw [if_neg h1] at h ⊢
    by_cases h2 : t < lastT s
    · rw [if_pos h2] at h; simp at h
    · rw [if_neg h2] at h ⊢
      exact ⟨h1, by omega, by rw [← h]⟩
theorem incr_facts {P : Spc} (h : Ok12 P) {k : Tx} {t b : Int} (he : iErr P k t b = 0) :
    intoL P.G k = none ∧ lastT (P.S k) ≤ t ∧ getL ((iSp P k t b).S k).z t = (iVal P k t b, 0) ∧ addS (lastV (P.S k)) b = (iVal P k t b, 0) ∧ ((iSp P k t b).S k).mx = max (P.S k).mx t := by
  obtain ⟨hw, h2, h3⟩ := iErr_parts he
  obtain ⟨hk, hi⟩ := wErr_ok hw
  obtain ⟨_, h4, h5⟩ := raiE_parts h2
  unfold iSp iVal
  rw [if_pos he, if_pos he, wrote_at h hw]
  exact ⟨hi, h4, getL_added3 (h.std k hk) h3, h5, mx_add h3⟩
theorem incr_has {P : Spc} {k : Tx} {t b : Int} (j : Tx) : (iSp P k t b).has j ↔ P.has j := by
  unfold iSp; split <;> exact Iff.rfl
theorem incr_no {P : Spc} {k : Tx} {t b : Int} (he : iErr P k t b ≠ 0) : iSp P k t b = P ∧ iVal P k t b = 0 := ⟨if_neg he, if_neg he⟩
theorem all_in {s : Ser} (h : Std s) : s.z.filter (inB 0 1099511627776) = s.z := by
  rw [List.filter_eq_self]
  intro x hx
  have := h.time x hx
  unfold inB
  simp; omega
end Go.Proofs.YtmifpfojhlmbkaaGreat
namespace Go.Proofs.YtmifpfojhlmbkaaGreat
set_option maxRecDepth 100000
set_option maxHeartbeats 16000000
namespace spaceIncr
open Go.ChangeShapes Go.WideShapes Go.ChangeAt Go.RowKit
open Go.ChangeMaps (open_string shut_string)
set_option linter.unusedVariables false
set_option linter.unusedSimpArgs false
theorem own : ownKnob Tryz.prog.godebug = none := by kernel_rfl
theorem walk (a : Option Addr) (len cap : Nat) (z : List Op12) (kb : ByteArray) (y : Int × Int) (w : World) (h : Ops12 w a len cap z) (_ : kb.size ≤ maxLen) (hy : in64 y.1 ∧ in64 y.2) :
    Calls Tryz.prog 8 #[.slice a len cap, .string kb, .agg #[.int .i64 y.1, .int .i64 y.2]] w fun e w' => e = .returned (.bool true) ∧ Below w.heap.size w w' := by
  obtain ⟨k, rfl⟩ : ∃ k, kb = bs k := ⟨tx kb, (bs_tx _).symm⟩
  obtain ⟨T, V⟩ := y
  have HV := Lib.hid hy.2
  have B1 := (Below.refl w.heap.size w).alloc (Nat.le_refl _) (.cells #[.int .i64 T, .int .i64 V] 27)
  have HO := Lib.hid (h.keep B1)
  have HB1 := Lib.hid B1
  have HX := Lib.hid (SBox.new w T V)
  have hs1 : w.heap.size ≤ (w.alloc (.cells #[.int .i64 T, .int .i64 V] 27)).heap.size := by simp
  have HS1 := Lib.hid hs1
  clear h hy B1 hs1
  go_enter Tryz.func8, Tryz.ntmps8
  go_wp2_with fail
  generalize hBp : w.heap.size = Bp at *
  have HBp := Lib.hid hBp
  generalize w.alloc (.cells #[.int .i64 T, .int .i64 V] 27) = W1 at *
  clear hBp
  refine (build12_any a len cap z W1 HO.out).mono ?_
  rintro e W2 ⟨x, m, P, rfl, X2, hf, hm⟩
  have X := Lib.hid X2
  have HF := Lib.hid (hf.mono (k := 900) (by omega))
  have HF1 := Lib.hid hf
  have HM := Lib.hid hm
  clear X2 hf hm HO
  have HEND : Hid (∀ W, Below W1.heap.size W1 W → Below Bp w W) := Lib.hid (fun W b => HB1.out.trans (b.mono HS1.out))
  clear HB1 HS1
  by_cases h100 : 100 < (bs k).size
  · have h100z : (100 : Int) < ((bs k).size : Int) := by omega
    go_wp2_with fail
    refine (known12_any _).mono ?_
    rintro e W3 ⟨rfl, b3⟩
    have XE := Lib.hid (X.out.keep b3).bel
    go_wp2
    go_ret
    exact ⟨rfl, by rw [HBp.out]; exact HEND.out _ XE.out⟩
  have h100z : ¬ (100 : Int) < ((bs k).size : Int) := by omega
  by_cases hk : P.has k
  · have HK := Lib.hid hk
    have HSO := Lib.hid (fun W m' (q : SpAt W x m' P) => hSeries_ok W x m' P k q HK.out (Nat.le_trans (HF.out.z k HK.out) (by omega)))
    have HSer := Lib.hid (X.out.sp.ok.std k hk)
    have HSiz := Lib.hid (X.out.sp.ok.siz k hk)
    have HZL := Lib.hid (HF.out.z k hk)
    have HFA := Lib.hid (fun (he : iErr P k T V = 0) => incr_facts X.out.sp.ok he)
    have HIN : Hid (∀ q ∈ P.G, intoL P.G k = none → q.dst ≠ k) := Lib.hid (fun q hq hn => into_none.1 hn q hq)
    clear hk
    go_wp2_with fail
    refine (HSO.out _ _ X.out.sp).mono ?_
    rintro e W3 ⟨o0, rfl, _, _, b3⟩
    replace X := Lib.hid (X.out.keep b3)
    clear b3
    go_wp2_with fail
    refine (into12_any W3 x m P k X.out.sp (Nat.le_trans HF.out.g (by omega))).mono ?_
    rintro e W4 ⟨r, mb, rfl, hmb, b4⟩
    replace X := Lib.hid (X.out.keep b4)
    have HMB := Lib.hid hmb
    clear b4 hmb
    have br := (Below.refl W4.heap.size W4).alloc (Nat.le_refl _) (.cells #[.string (bs r.src), .string (bs r.dst), .int .i64 r.kind, .int .i64 r.size, .int .i64 r.align] 32)
    have X5 := Lib.hid (X.out.keep br)
    clear br
    go_wp2_with fail
    generalize W4.alloc (.cells #[.string (bs r.src), .string (bs r.dst), .int .i64 r.kind, .int .i64 r.size, .int .i64 r.align] 32) = W5 at *
    clear X
    refine (HSO.out _ _ X5.out.sp).mono ?_
    rintro e W6 ⟨o1, rfl, ho1, s1, b6⟩
    have X6 := Lib.hid (X5.out.keep b6)
    have HO1 : Hid (∀ i, Own m P.E i → i < o1) := Lib.hid (fun i f => Nat.lt_of_lt_of_le (X5.out.sp.lt f) ho1)
    have S6 := Lib.hid s1
    clear X5 s1 b6 ho1
    have HLS := Lib.hid (fun W (q : SerAt W o1 (P.Z k) (P.S k)) => show Calls Tryz.prog 49 #[.pointer (some ⟨o1, 0, none⟩)] W fun e w' => e = .returned (.tuple #[.agg #[.int .i64 (lastT (P.S k)), .int .i64 (lastV (P.S k))], .bool (decide (0 < (P.S k).z.length))]) ∧ Below W.heap.size W w' from last_ser o1 (P.Z k) (P.S k) W q HSiz.out.1 (Nat.le_trans HZL.out (by omega)))
    go_wp2_with fail
    refine (HLS.out _ S6.out).mono ?_
    rintro e W7 ⟨rfl, b7⟩
    have X7 := Lib.hid (X6.out.keep b7)
    have S7 := Lib.hid (S6.out.keepB b7)
    clear X6 S6 b7 HLS
    have HL64 := Lib.hid (last64 HSer.out)
    generalize hlt : lastT (P.S k) = lt at *
    generalize hlv : lastV (P.S k) = lv at *
    have HLT := Lib.hid hlt
    have HLV := Lib.hid hlv
    clear hlt hlv
    have br := (Below.refl W7.heap.size W7).alloc (Nat.le_refl _) (.cells #[.int .i64 lt, .int .i64 lv] 27)
    have X8 := Lib.hid (X7.out.keep br)
    have S8 := Lib.hid (S7.out.keepB br)
    have L8 := Lib.hid (SBox.new W7 lt lv)
    have HLB : Hid (∀ i, Own m P.E i → i < W7.heap.size) := Lib.hid (fun i f => X7.out.sp.lt f)
    clear br X7 S7
    obtain ⟨y0, y1⟩ := (HX.out.keep X8.out.bel).two
    go_wp2_with fail
    generalize hbl : W7.heap.size = bl at *
    generalize W7.alloc (.cells #[.int .i64 lt, .int .i64 lv] 27) = W8 at *
    clear hbl
    refine (oInc X8.out k T V HF.out HV.out).mono ?_
    rintro e W9 ⟨rfl, m', oo, tt⟩
    have S9 := Lib.hid (S8.out.ts tt (fun f => by have := HO1.out _ f; omega))
    have L9 := Lib.hid (L8.out.ts tt)
    have HF9 := Lib.hid (iSp_inv X8.out.sp.ok HF1.out HM.out (rai64 (P.S k) T V) (by omega)).1
    have X9 := Lib.hid oo
    clear tt oo S8 L8 X8 y0 y1
    have HK9 : Hid ((iSp P k T V).has k) := Lib.hid ((incr_has k).2 HK.out)
    have HS9 := Lib.hid (hSeries_ok W9 x m' (iSp P k T V) k X9.out.sp HK9.out (Nat.le_trans (HF9.out.z k HK9.out) (by omega)))
    have HSer9 := Lib.hid (X9.out.sp.ok.std k HK9.out)
    have HSiz9 := Lib.hid (X9.out.sp.ok.siz k HK9.out)
    have HZL9 := Lib.hid (Nat.le_trans (HF9.out.z k HK9.out) (show 100 + 2 ≤ 900 by omega))
    obtain ⟨y0, y1⟩ := (HX.out.keep X9.out.bel).two
    by_cases he : iErr P k T V = 0
    · obtain ⟨f1, f2, f3, f4, f5⟩ := HFA.out he
      rw [he]
      have hmb : mb = false := by
        rcases HMB.out with ⟨_, q1, q2⟩ | ⟨q, _⟩
        · exact absurd q2 (HIN.out r q1 f1)
        · exact q
      subst hmb
      have HF2 := Lib.hid f2
      have HF3 := Lib.hid f3
      have HF4 := Lib.hid f4
      have HF5 := Lib.hid f5
      clear f1 f2 f3 f4 f5 HFA HMB HIN he
      try rw [HLT.out] at HF2
      try rw [HLV.out] at HF4
      generalize iVal P k T V = v at *
      generalize hs : P.S k = s at *
      generalize hs9 : (iSp P k T V).S k = s9 at *
      generalize P.Z k = zk at *
      generalize (iSp P k T V).Z k = zk9 at *
      clear hs hs9
      go_wp2_with fail
      refine HS9.out.mono ?_
      rintro e W10 ⟨o2, rfl, _, s10, b10⟩
      have X10 := Lib.hid (X9.out.keep b10)
      have S10 := Lib.hid (S9.out.keepB b10)
      have N10 := Lib.hid s10
      have L10 := Lib.hid (L9.out.keep b10)
      clear X9 S9 L9 s10 b10 HS9 y0 y1
      obtain ⟨y0, y1⟩ := (HX.out.keep X10.out.bel).two
      go_wp2_with fail
      refine (get_ser o2 zk9 s9 T v 0 W10 HF3.out N10.out HSiz9.out.1 HSer9.out.rise (Nat.le_trans HZL9.out (by omega))).mono ?_
      rintro e W11 ⟨rfl, b11⟩
      have X11 := Lib.hid (X10.out.keep b11)
      have S11 := Lib.hid (S10.out.keepB b11)
      have N11 := Lib.hid (N10.out.keepB b11)
      have L11 := Lib.hid (L10.out.keep b11)
      clear X10 S10 L10 N10 b11 y0 y1
      obtain ⟨y0, y1⟩ := (HX.out.keep X11.out.bel).two
      obtain ⟨l0, l1⟩ := L11.out.two
      have HAD := add_any lv V W11 HL64.out.1 HV.out
      rw [HF4.out] at HAD
      unfold two at HAD
      replace HAD := Lib.hid HAD
      go_wp2_with fail
      refine HAD.out.mono ?_
      rintro e W12 ⟨rfl, rfl⟩
      clear HAD
      have hlt := HF2.out
      have hm0 := HSer.out.m0
      have BD := (Below.refl W11.heap.size W11).drew
      have X12 := Lib.hid (X11.out.keep BD)
      have S12 := S11.out.keepB BD
      have N12 := N11.out.keepB BD
      have M1 := smaxS o1 zk s W11.drew S12 (by have := HSiz.out.1; omega)
      have M2 := smaxS o2 zk9 s9 W11.drew N12 (by have := HSiz9.out.1; omega)
      rw [HF5.out] at M2
      replace M1 := Lib.hid M1
      replace M2 := Lib.hid M2
      obtain ⟨y0, y1⟩ := (HX.out.keep X12.out.bel).two
      obtain ⟨l0, l1⟩ := (L11.out.keep BD).two
      clear BD S12 N12 X11 S11 N11 L11
      generalize s.mx = mx at *
      have hz : decide (0 < s.z.length) = true ∨ decide (0 < s.z.length) = false := by cases decide (0 < s.z.length) <;> simp
      generalize decide (0 < s.z.length) = sb at *
      obtain ⟨mm, hmm⟩ : ∃ mm, max mx T = mm := ⟨_, rfl⟩
      rw [hmm] at M2
      rcases hz with rfl | rfl
      all_goals
        go_wp2_with fail
        refine wp_region_still_tail 42 (by kernel_rfl) (by kernel_rfl) ?_
        simp only [List.take_succ_cons, List.take_zero, List.drop_succ_cons, List.drop_zero]
        change wpStill _ _ W11.drew (fun a' => wpList _ _ _ _ a' W11.drew) _ _
        generalize W11.drew = W13 at *
        repeat still_step
        still_call M2.out
        repeat still_step
        still_call M1.out
        repeat still_step
        refine wpStill_nil ?_
        go_wp2_with fail
        refine (known12_any _).mono ?_
        rintro e W14 ⟨rfl, b14⟩
        have XE := Lib.hid (X12.out.keep b14).bel
        go_wp2
        go_ret
        exact ⟨rfl, by rw [HBp.out]; exact HEND.out _ XE.out⟩
    · obtain ⟨e1, e2⟩ := incr_no (P := P) (k := k) (t := T) (b := V) he
      rw [e1] at HS9 HSer9 HSiz9 HZL9
      rw [e2]
      clear HFA HMB HIN HF9 HK9 e1 e2
      have hez : (iErr P k T V == 0) = false := by simpa using he
      generalize iErr P k T V = er at *
      clear he
      have HRs := Lib.hid (fun o W (q : SerAt W o (P.Z k) (P.S k)) => (by have C := range_ser o (P.Z k) (P.S k) 0 1099511627776 W q HSiz.out.1 HSer.out.rise (Nat.le_trans HZL.out (by omega)); rw [all_in HSer.out] at C; exact C : Calls _ _ _ W (LaidP (P.S k).z W)))
      unfold LaidP at HRs
      generalize P.S k = s at *
      generalize P.Z k = zk at *
      generalize s.z = sz at *
      generalize hn : sz.length = n at *
      clear hn
      go_wp2_with fail
      refine HS9.out.mono ?_
      rintro e W10 ⟨o2, rfl, _, s10, b10⟩
      have X10 := Lib.hid (X9.out.keep b10)
      have S10 := Lib.hid (S9.out.keepB b10)
      have N10 := Lib.hid s10
      clear X9 S9 L9 s10 b10 HS9 y0 y1
      go_wp2_with fail
      refine (HRs.out o2 _ N10.out).mono ?_
      rintro e W11 ⟨a1, c1, rfl, l1, b11⟩
      have X11 := Lib.hid (X10.out.keep b11)
      have S11 := Lib.hid (S10.out.keepB b11)
      have L11 := Lib.hid l1
      clear X10 S10 N10 l1 b11
      go_wp2_with fail
      refine (HRs.out o1 _ S11.out).mono ?_
      rintro e W12 ⟨a2, c2, rfl, l2, b12⟩
      have X12 := Lib.hid (X11.out.keep b12)
      have K12 := Lib.hid (L11.out.keepB b12)
      have L12 := Lib.hid l2
      clear X11 S11 L11 l2 b12
      have SM := same_any a1 a2 n n c1 c2 sz sz W12 K12.out.1 L12.out.1
      rw [decide_eq_true rfl] at SM
      replace SM := Lib.hid SM
      go_wp2_with fail
      refine SM.out.mono ?_
      rintro e W13 ⟨rfl, dr⟩
      have X13 := Lib.hid (X12.out.keep dr.bel)
      clear X12 K12 L12 dr SM
      go_wp2_with fail
      refine (known12_any _).mono ?_
      rintro e W14 ⟨rfl, b14⟩
      have XE := Lib.hid (X13.out.keep b14).bel
      go_wp2
      go_ret
      exact ⟨rfl, by rw [HBp.out]; exact HEND.out _ XE.out⟩
  · go_wp2_with fail
    refine (hSeries_no W2 x m P k X.out.sp hk).mono ?_
    rintro e W3 ⟨rfl, b3⟩
    replace X := Lib.hid (X.out.keep b3)
    clear b3
    go_wp2_with fail
    refine (known12_any _).mono ?_
    rintro e W4 ⟨rfl, b4⟩
    have XE := Lib.hid (X.out.keep b4).bel
    go_wp2
    go_ret
    exact ⟨rfl, by rw [HBp.out]; exact HEND.out _ XE.out⟩
theorem lifted (os : Os) (started : os.Started) (H : Type) (enc : TypeId × Value → H) :
    ReturnsInHanded {} Tryz.checked os 8 .any (Rows.spaceIncrSpec.pre6 enc Tryz.prog Tryz.f8 Rows.spaceIncrRow.domain false) (Rows.spaceIncrSpec.post enc Tryz.prog Tryz.f8 false true false false) := by
  refine returnsInHanded_of_change (C := Tryz.checked) own started (by kernel_rfl) Tryz.func8
    (ChangeSpec.witness6 (enc := enc) (C := Tryz.checked) false ⟨#[], #[.slice none 0 0, .string ByteArray.empty, .agg #[.int .i64 0, .int .i64 0]], []⟩ 8 (by kernel_rfl) (by kernel_rfl) (by kernel_rfl) (by kernel_rfl)) ?_
  intro W base args ds gs before hval0 hW hcnd _
  have hval : ∀ (j : Nat) t v, Tryz.f8.params[j]? = some t → args[j]? = some v → Value.okWide Tryz.prog W .any base t v := hval0
  have hW' := hW
  obtain ⟨p, q, hA0, hV, rfl, hfz, hnd⟩ := hW
  have hA : DataW.TrodAll enc Tryz.prog W 0 (fun _ => true) true Tryz.f8.params.toList args.toList ds p := hA0
  rw [Tryz.params8] at hA hval
  obtain ⟨v0, vs0, d0, ds0, p0, q0, hargs, rfl, rfl, h0, r0⟩ := trodAll_cons hA
  obtain ⟨v1, vs1, d1, ds1, p1, q1, rfl, rfl, rfl, h1, r1⟩ := trodAll_cons r0
  obtain ⟨v2, vs2, d2, ds2, p2, q2, rfl, rfl, rfl, h2, r2⟩ := trodAll_cons r1
  obtain ⟨rfl, rfl, rfl⟩ := trodAll_nil r2
  obtain rfl : args = #[v0, v1, v2] := by cases args; simp_all
  obtain ⟨rfl, rfl⟩ := trodVars_none hV
  obtain ⟨a0, len0, cap0, rfl⟩ := okWide_slice Tryz.underlying22 (hval 0 22 v0 rfl rfl)
  have k0 := h0
  have lt0 : ∀ x ∈ p0, x.block < W.heap.size := by obtain ⟨m, hm⟩ := k0; exact DataW.trod_lt m _ _ _ hm
  obtain ⟨z0, w0⟩ := open_ops12 h0
  obtain ⟨a1, rfl, rfl, rfl, w1⟩ := open_string Tryz.underlying9 (hval 1 9 v1 rfl rfl) h1
  have k2 := h2
  have lt2 : ∀ x ∈ p2, x.block < W.heap.size := by obtain ⟨m, hm⟩ := k2; exact DataW.trod_lt m _ _ _ hm
  obtain ⟨a2, rfl, w2⟩ := open_sample12 (hval 2 27 v2 rfl rfl) h2
  clear hA0 hval0
  refine (walk a0 len0 cap0 z0 a1 a2 W w0 w1 w2).mono fun e W' ⟨he, bel⟩ => ?_
  subst he
  exact ⟨_, rfl, _, _, _, [], _, [], hW', trodAll_mk1 (shut_bool Tryz.underlying4 _), (trodAll_cons_mk (Below.trod laidOut (by kernel_rfl) (of_decide_eq_true (by kernel_rfl)) k0 bel lt0) (trodAll_cons_mk (shut_string Tryz.underlying9 w1) (trodAll_cons_mk (Below.trod laidOut (by kernel_rfl) (of_decide_eq_true (by kernel_rfl)) k2 bel lt2) trodAll_mk0))), rfl, bel.frame _, fun h => by cases h⟩
theorem closed : joinedFacts Tryz.pinned.checked.prog 8 Tryz.f8 Rows.spaceIncrSpec Rows.spaceIncrRow = true := by
  unfold joinedFacts
  repeat' (with_reducible refine Bool.and_eq_true_iff.2 ⟨?_, ?_⟩)
  all_goals as_aux_lemma => kernel_rfl
theorem over : Rows.spaceIncrRow.holds Tryz.pinned (OpenSpec.ofChange Rows.spaceIncrSpec) :=
  OpenClaim.holds_of_wide 8 Tryz.f8 rfl rfl rfl rfl rfl rfl rfl ⟨rfl, rfl, rfl, rfl, rfl⟩ rfl rfl rfl rfl rfl (by kernel_rfl) Tryz.func8 closed
    (of_decide_eq_true (by kernel_rfl)) (by unfold Func.isWrapper; first | (rw [if_pos (by decide +kernel)]; kernel_rfl) | (rw [if_neg (by decide +kernel)]; exact ⟨rfl, rfl⟩))
    (fun os started H enc _ => lifted os started H enc)
theorem proved : Rows.SpaceIncrSaid := over
end spaceIncr
theorem spaceIncr_holds : Rows.SpaceIncrSaid := spaceIncr.proved
#print axioms spaceIncr_holds
end Go.Proofs.YtmifpfojhlmbkaaGreat
