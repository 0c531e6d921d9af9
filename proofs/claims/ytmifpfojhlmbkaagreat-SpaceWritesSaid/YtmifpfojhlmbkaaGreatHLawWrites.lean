/-
  The statement 'SpaceWrites' of layer 12: a key that is not there, or is made, is not written; an error changes nothing; what is added is told; no other key changes, but those that are made of it.
  No condition on the arguments.
-/
import Derived.Test.YtmifpfojhlmbkaaGreatJ0
import Derived.Test.YtmifpfojhlmbkaaGreatJ1
import Derived.Test.YtmifpfojhlmbkaaGreatJ2
import Derived.Test.YtmifpfojhlmbkaaGreatJ3
import Derived.Test.YtmifpfojhlmbkaaGreatJ4
import Derived.Test.YtmifpfojhlmbkaaGreatJ5
import Derived.Test.YtmifpfojhlmbkaaGreatJ6
import Derived.Test.YtmifpfojhlmbkaaGreatJ7
import Derived.Test.YtmifpfojhlmbkaaGreatJ8
import Derived.Test.YtmifpfojhlmbkaaGreatJ9
import Derived.Test.YtmifpfojhlmbkaaGreatJ10
import Derived.Test.YtmifpfojhlmbkaaGreatJ11
import Derived.Test.YtmifpfojhlmbkaaGreatJ12
import Derived.Test.YtmifpfojhlmbkaaGreatJ13
import Derived.Test.YtmifpfojhlmbkaaGreatJ14
import Derived.Test.YtmifpfojhlmbkaaGreatJ15
import Derived.Test.YtmifpfojhlmbkaaGreatJ16
import Derived.Test.YtmifpfojhlmbkaaGreatJ17
import Derived.Test.YtmifpfojhlmbkaaGreatJ18
import Derived.Test.YtmifpfojhlmbkaaGreatJ19
import Derived.Test.YtmifpfojhlmbkaaGreatJ20
import Derived.Test.YtmifpfojhlmbkaaGreatJ21
import Derived.Test.YtmifpfojhlmbkaaGreatJ22
import Derived.Test.YtmifpfojhlmbkaaGreatJ23
import Derived.Test.YtmifpfojhlmbkaaGreatJ24
import Derived.Test.YtmifpfojhlmbkaaGreatJ25
import Derived.Test.YtmifpfojhlmbkaaGreatJ26
import Derived.Test.YtmifpfojhlmbkaaGreatJ27
import Derived.Test.YtmifpfojhlmbkaaGreatJ28
import Derived.Test.YtmifpfojhlmbkaaGreatJ29
import Derived.Test.YtmifpfojhlmbkaaGreatJ30
import Derived.Test.YtmifpfojhlmbkaaGreatJ31
import Derived.Test.YtmifpfojhlmbkaaGreatJ32
import Derived.Test.YtmifpfojhlmbkaaGreatJ33
import Derived.Test.YtmifpfojhlmbkaaGreatJ34
import Derived.Test.YtmifpfojhlmbkaaGreatJ35
import Derived.Test.YtmifpfojhlmbkaaGreatJ36
import Derived.Test.YtmifpfojhlmbkaaGreatJ37
import Derived.Test.YtmifpfojhlmbkaaGreatJ38
import Derived.Test.YtmifpfojhlmbkaaGreatJ39
import Derived.Test.YtmifpfojhlmbkaaGreatJ40
import Derived.Test.YtmifpfojhlmbkaaGreatJ41
import Derived.Test.YtmifpfojhlmbkaaGreatJ42
import Derived.Test.YtmifpfojhlmbkaaGreatJ43
import Derived.Test.YtmifpfojhlmbkaaGreatJ44
import Derived.Test.YtmifpfojhlmbkaaGreatJ45
import Derived.Test.YtmifpfojhlmbkaaGreatJ46
import Derived.Test.YtmifpfojhlmbkaaGreatJ47
import Derived.Test.YtmifpfojhlmbkaaGreatRows
import Derived.Deep.RegionHeld3
import Derived.Deep.DeepCutAuto
import Derived.ChangeOld
namespace Go.Proofs.YtmifpfojhlmbkaaGreat
open Lib (hid)
set_option maxRecDepth 100000
set_option maxHeartbeats 16000000
set_option linter.unusedVariables false
set_option linter.unusedSimpArgs false
theorem getL_parts {x y u : List (Int × Int)} {t : Int} (hy : Rising y) (hx : ∀ a ∈ x, a.1 < t) (hu : ∀ a ∈ u, t < a.1) : getL (x ++ y ++ u) t = getL y t := by
  have h2 := upt_le y t
  unfold getL
  rw [bef_parts hy hx hu, upt_parts hy hx hu]
  by_cases h : bef y t < upt y t
  · rw [if_pos h, if_pos (by omega), vOf3_mid x y u _ (by omega)]
  · rw [if_neg h, if_neg (by omega)]
open Go.RowKit
def PairP (x : Int × Int) (w : World) (e : Ending) (w' : World) : Prop := e = .returned (two x) ∧ Below w.heap.size w w'
theorem get_ok4 (b : Nat) (sz : Int) (z : List (Int × Int)) (t : Int) (w : World) (h : PCk w b sz z) (hs : 1 ≤ sz) (hr : Rising z) (hn : z.length ≤ 1048576) :
    Calls Tryz.prog 70 #[.pointer (some ⟨b, 0, none⟩), .int .i64 t] w (PairP (getL z t) w) := by
  obtain ⟨a, cap, hc, hl⟩ := h
  have HC := hid hc
  have HL := hid hl
  have hb := heap_lt hc
  have c1 : w.cell? ⟨b, 1, none⟩ = some (.slice a z.length cap) := by rw [cell_of hc]; rfl
  have HR := hid hr
  have hle := bef_le z t
  have HAT := hid (at_time hr t)
  have HG := hid (show getL z t = if bef z t < upt z t then (vOf z (bef z t), 0) else (0, 5) from rfl)
  clear hc hl hr
  by_cases h1 : bef z t = z.length
  · have HK := hid h1
    have HNO := hid (show getL z t = (0, 5) from by rw [HG.out, if_neg (fun e => by have := HAT.out.1 e; omega)])
    have hq : (((bef z t : Nat) : Int) == ((z.length : Nat) : Int)) = true := by simp [h1]
    clear h1 hle
    go_enter Tryz.func70, Tryz.ntmps70
    go_wp2_with fail
    refine (isNone_no b sz _ _ HC.out hs).mono ?_
    rintro e w' ⟨rfl, rfl⟩
    go_wp2_with fail
    refine (before_any a _ cap z t _ HL.out HR.out hn).mono ?_
    rintro e w' ⟨rfl, b1⟩
    rw [← b1.cell hb] at c1
    generalize bef z t = k at *
    go_wp2
    go_ret2
    exact ⟨by rw [HNO.out]; rfl, b1⟩
  · have h1' : bef z t < z.length := by omega
    have hq : (((bef z t : Nat) : Int) == ((z.length : Nat) : Int)) = false := by rw [beq_eq_false_iff_ne]; omega
    obtain ⟨p, o, rfl, hp, x0, x1⟩ := HL.out.1.at_ (bef z t) h1'
    by_cases h2 : tOf z (bef z t) = t
    · have HV := hid (show getL z t = (vOf z (bef z t), 0) from by rw [HG.out, if_pos (HAT.out.2 ⟨h1', h2⟩)])
      have hq2 : (t != t) = false := by simp
      rw [h2] at x0
      clear h1 hle h2
      go_enter Tryz.func70, Tryz.ntmps70
      go_wp2_with fail
      refine (isNone_no b sz _ _ HC.out hs).mono ?_
      rintro e w' ⟨rfl, rfl⟩
      go_wp2_with fail
      refine (before_any _ _ cap z t _ HL.out HR.out hn).mono ?_
      rintro e w' ⟨rfl, b1⟩
      rw [← b1.cell hb] at c1
      rw [← b1.cell hp] at x0 x1
      generalize vOf z (bef z t) = v at *
      generalize bef z t = k at *
      go_wp2
      go_ret2
      exact ⟨by rw [HV.out]; rfl, b1⟩
    · have HNO := hid (show getL z t = (0, 5) from by rw [HG.out, if_neg (fun e => h2 (HAT.out.1 e).2)])
      have hq2 : (tOf z (bef z t) != t) = true := by rw [bne_iff_ne]; exact h2
      clear h1 hle h2
      go_enter Tryz.func70, Tryz.ntmps70
      go_wp2_with fail
      refine (isNone_no b sz _ _ HC.out hs).mono ?_
      rintro e w' ⟨rfl, rfl⟩
      go_wp2_with fail
      refine (before_any _ _ cap z t _ HL.out HR.out hn).mono ?_
      rintro e w' ⟨rfl, b1⟩
      rw [← b1.cell hb] at c1
      rw [← b1.cell hp] at x0 x1
      generalize tOf z (bef z t) = tt at *
      generalize bef z t = k at *
      go_wp2
      go_ret2
      exact ⟨by rw [HNO.out]; rfl, b1⟩
theorem get_at (b : Nat) (sz : Int) (z : List (Int × Int)) (t x er : Int) (w : World) (hG : getL z t = (x, er)) (h : PCk w b sz z) (hs : 1 ≤ sz) (hr : Rising z) (hn : z.length ≤ 1048576) :
    Calls Tryz.prog 70 #[.pointer (some ⟨b, 0, none⟩), .int .i64 t] w fun e w' => e = .returned (.tuple #[.int .i64 x, .int .i64 er]) ∧ Below w.heap.size w w' := by
  have := get_ok4 b sz z t w h hs hr hn
  rw [hG] at this
  exact this
theorem get_flat {Z : List (List (Int × Int))} (hr : Rising Z.flatten) (hn : ∀ z ∈ Z, z ≠ []) (h0 : 0 < Z.length) (T : Int) :
    getL Z.flatten T = getL (Z.getD (begL Z T - 1) []) T := by
  obtain ⟨h1, h2, h3⟩ := put_place hr hn h0 T
  have hy : Rising (Z.getD (begL Z T - 1) []) := flat_rising hr (by rw [chunk_get h1]; exact List.getElem_mem h1)
  have e : Z.flatten = (Z.take (begL Z T - 1)).flatten ++ Z.getD (begL Z T - 1) [] ++ (Z.drop (begL Z T - 1 + 1)).flatten := by
    conv => lhs; rw [split_at h1]
    simp
  rw [e]; exact getL_parts hy h2 h3
theorem get_none {Z : List (List (Int × Int))} (hr : Rising Z.flatten) (hn : ∀ z ∈ Z, z ≠ []) (T : Int) (h : begL Z T = 0) : getL Z.flatten T = (0, 5) := by
  refine getL_no hr fun x hx => ?_
  have := beg_behind hr hn T x (by rw [h, List.drop_zero]; exact hx)
  omega
theorem get_ser (b : Nat) (sz : Int) (s : Ser) (t x er : Int) (w : World) (hG : getL s.z t = (x, er)) (h : SerAt w b sz s) (hs : 128 ≤ sz) (hr : Rising s.z) (hn : s.z.length ≤ 100000) :
    Calls Tryz.prog 24 #[.pointer (some ⟨b, 0, none⟩), .int .i64 t] w fun e w' => e = .returned (.tuple #[.int .i64 x, .int .i64 er]) ∧ Below w.heap.size w w' := by
  obtain ⟨L, ⟨a, cap, hc, hpt, hk⟩, hg, hf⟩ := h
  have hne := good_ne hg
  have hrz : Rising (zs L).flatten := by rw [hf]; exact hr
  have hLn : L.length ≤ 100000 := by have := flat_ge hne; rw [hf, zs_len] at this; omega
  have hlz : (zs L).flatten.length ≤ 1048576 := by rw [hf]; omega
  have hbl := begL_le (zs L) t
  rw [zs_len] at hbl
  have HC := hid hc
  have HPT := hid hpt
  have HK := hid hk
  have HRZ := hid hrz
  have HNE := hid hne
  have HA := hid (show winA (zs L) t t = begL (zs L) t - 1 from by unfold winA; rw [if_neg (by omega)])
  have HB := hid (show winB (zs L) t t = begL (zs L) t from by unfold winB; rw [if_neg (by omega)])
  have HG : Hid (0 < begL (zs L) t → getL ((zs L).getD (begL (zs L) t - 1) []) t = (x, er)) := hid (fun h0 => by rw [← get_flat hrz hne (by rw [zs_len]; omega) t, hf]; exact hG)
  have HG0 : Hid (begL (zs L) t = 0 → (x, er) = (0, 5)) := hid (fun h0 => by rw [← hG, ← hf]; exact get_none hrz hne t h0)
  have hblt := hc.lt
  clear hc hpt hk hrz hne hg hf hG hr
  obtain ⟨k, hkk⟩ : ∃ k, begL (zs L) t = k := ⟨_, rfl⟩
  rw [hkk] at hbl HA HB HG HG0
  clear hkk
  obtain ⟨NL, hNL⟩ : ∃ NL, L.length = NL := ⟨_, rfl⟩
  rw [hNL] at HC HPT hbl hLn
  have HNL := hid hNL
  clear hNL
  have cw : w.cell? ⟨b, 5, none⟩ = some (.slice a NL cap) := by rw [cell_of HC.out]; rfl
  by_cases hk0 : k = 0
  · subst hk0
    have HX := hid (HG0.out rfl)
    clear HG HG0
    go_enter Tryz.func24, Tryz.ntmps24
    go_wp2_with fail
    refine (sNone_no b sz _ _ _ _ _ w HC.out (by omega)).mono ?_
    rintro e w' ⟨rfl, rfl⟩
    go_wp2_with fail
    refine (window_any a NL cap L sz t t w HPT.out HK.out (by omega) hlz HRZ.out HNE.out (by omega)).mono ?_
    rintro e W1 ⟨rfl, b1⟩
    rw [HA.out, HB.out]
    go_wp2
    go_ret2
    have := HX.out
    simp only [Prod.mk.injEq] at this
    exact ⟨by rw [this.1, this.2]; rfl, b1⟩
  · have hkl : k - 1 < NL := by omega
    obtain ⟨pb, po, hpe, hpb, x0⟩ := HPT.out.at_ (k - 1) hkl
    subst hpe
    unfold ptr at x0
    have hkL : k - 1 < L.length := by rw [HNL.out]; exact hkl
    have HQ : Hid (PCk w ((bl L).getD (k - 1) 0) sz ((zs L).getD (k - 1) [])) := hid (HK.out.get (i := k - 1) hkL)
    have HZR := hid (show Rising ((zs L).getD (k - 1) []) from flat_rising HRZ.out (by rw [chunk_get (by rw [zs_len]; exact hkL)]; exact List.getElem_mem _))
    have hzl : ((zs L).getD (k - 1) []).length ≤ 1048576 := Nat.le_trans (flat_len_get _ _) hlz
    have HGG := hid (HG.out (by omega))
    clear HG HG0
    generalize (bl L).getD (k - 1) 0 = q at *
    generalize (zs L).getD (k - 1) [] = z at *
    obtain ⟨k', rfl⟩ : ∃ k', k = k' + 1 := ⟨k - 1, by omega⟩
    rw [Nat.add_sub_cancel] at x0 HA
    have hkb : ((k' : Int) == ((k' + 1 : Nat) : Int)) = false := by rw [beq_eq_false_iff_ne]; omega
    have hkb2 : ((k' : Int) == (k' : Int) + 1) = false := by rw [beq_eq_false_iff_ne]; omega
    have hk1 : (0 : Int) ≤ (k' : Int) := by omega
    have hk2 : (k' : Int) < (NL : Int) := by omega
    go_enter Tryz.func24, Tryz.ntmps24
    go_wp2_with fail
    refine (sNone_no b sz _ _ _ _ _ w HC.out (by omega)).mono ?_
    rintro e w' ⟨rfl, rfl⟩
    go_wp2_with fail
    refine (window_any _ NL cap L sz t t w HPT.out HK.out (by omega) hlz HRZ.out HNE.out (by omega)).mono ?_
    rintro e W1 ⟨rfl, b1⟩
    rw [HA.out, HB.out]
    have c1 := (b1.cell (p := ⟨b, 5, none⟩) hblt).trans cw
    have x1 := (b1.cell (p := ⟨pb, po + k', none⟩) hpb).trans x0
    have HQ1 : Hid (PCk W1 q sz z) := hid (CAt.keepB HQ.out b1)
    go_wp2_with fail
    refine (get_at q sz z t x er _ HGG.out HQ1.out (by omega) HZR.out hzl).mono ?_
    rintro e W2 ⟨rfl, b2⟩
    have B2 := b1.trans (b2.mono b1.size)
    clear c1 x1 b1 b2
    go_wp2
    go_ret2
    exact ⟨rfl, B2⟩
theorem HOwn.ts {base : Nat} {w0 w w' : World} {x : Nat} {m : Mem} {P : Spc} {G : Nat → Prop} (h : HOwn base w0 w x m P) (t : Ts G w w') (hG : ∀ i, G i → ¬ Own m P.E i) (hb : ∀ i, G i → base ≤ i) : HOwn base w0 w' x m P :=
  ⟨h.sp.ts t hG, h.xb, h.own, t.tu.below h.bel h.sz (fun i hi f => by have := hb i f; omega), Nat.le_trans h.sz t.size⟩
theorem getL_added {s : Ser} (hs : Std s) {T V p : Int} (he : addE s T V p = 0) : getL (addS5 s T V p).z T = ((newV s.z T V (polS s p)).1, 0) := by
  have hT : s.line ≤ T := by
    unfold addE at he
    split at he
    · omega
    · split at he <;> omega
  have hr := hs.lr
  unfold addS5
  rw [if_pos he, get_trim (insL_rising hs.rise _ _)]
  · exact getL_ins hs.rise _ _
  · show lineS _ ≤ T
    unfold lineS
    simp only
    split <;> omega
theorem pol3 (s : Ser) : polS s 3 = 3 := if_neg (by decide)
theorem getL_added3 {s : Ser} (hs : Std s) {T V : Int} (he : addE s T V 3 = 0) : getL (addS5 s T V 3).z T = (V, 0) := by
  rw [getL_added hs he, pol3, newV_last]
theorem all_in {s : Ser} (h : Std s) : s.z.filter (inB 0 1099511627776) = s.z := by
  rw [List.filter_eq_self]
  intro x hx
  have := h.time x hx
  unfold inB
  simp; omega
theorem aErr_no {P : Spc} {k : Tx} (T V p : Int) (h : ¬ P.has k) : aErr P k T V p = 5 := by
  have hw : wErr P k = 5 := if_pos h
  unfold aErr
  rw [hw]; rfl
theorem aErr_made {P : Spc} {k : Tx} (T V p : Int) (h : P.has k) {r : Ru} (hr : r ∈ P.G) (hd : r.dst = k) : aErr P k T V p = 10 := by
  have hi : (intoL P.G k).isSome = true := by
    cases e : intoL P.G k with
    | none => exact absurd hd (into_none.1 e r hr)
    | some q => rfl
  have hw : wErr P k = 10 := by unfold wErr; rw [if_neg (by simpa using h), if_pos hi]
  unfold aErr
  rw [hw]; rfl
theorem aErr_ok {P : Spc} {k : Tx} {T V p : Int} (h : aErr P k T V p = 0) : P.has k ∧ intoL P.G k = none ∧ addE (P.S k) T V p = 0 ∧ aSp P k T V p = wrote P k T V p := by
  have hs : aSp P k T V p = wrote P k T V p := if_pos h
  unfold aErr at h
  by_cases hw : wErr P k = 0
  · rw [if_neg (by simpa using hw)] at h
    exact ⟨(wErr_ok hw).1, (wErr_ok hw).2, h, hs⟩
  · rw [if_pos hw] at h; exact absurd h hw
theorem aSp_err {P : Spc} {k : Tx} {T V p : Int} (h : aErr P k T V p ≠ 0) : aSp P k T V p = P := if_neg h
theorem aSp_E (P : Spc) (k : Tx) (T V p : Int) : (aSp P k T V p).E = P.E ∧ (aSp P k T V p).G = P.G := by
  unfold aSp; split <;> exact ⟨rfl, rfl⟩
theorem aSp_get {P : Spc} (hP : Ok12 P) {k : Tx} {T V : Int} (h : aErr P k T V 3 = 0) : getL ((aSp P k T V 3).S k).z T = (V, 0) := by
  obtain ⟨h1, h2, h3, h4⟩ := aErr_ok h
  rw [h4]
  show getL (remK _ _ _ k).z T = _
  rw [(remK_at hP h2 _ _).2.2.2]
  exact getL_added3 (hP.std k h1) h3
theorem aSp_other {P : Spc} (hP : Ok12 P) {k j : Tx} {T V : Int} (h : aErr P k T V 3 = 0) (hj : j ≠ k) {r : Ru} {b : Bool} (hb : (b = true ∧ r ∈ P.G ∧ r.dst = j) ∨ (b = false ∧ ∀ q ∈ P.G, q.dst ≠ j)) (hs : b = true → r.src ≠ k) : (aSp P k T V 3).S j = P.S j := by
  obtain ⟨h1, h2, h3, h4⟩ := aErr_ok h
  rw [h4]
  refine (remK_at hP h2 _ _).2.2.1 j hj (fun q hq e hd => ?_)
  rcases hb with ⟨b1, b2, b3⟩ | ⟨_, b2⟩
  · have := hP.gG.one q hq r b2 (hd.trans b3.symm)
    subst this
    exact hs b1 e
  · exact b2 q hq hd
open Go.RowKit Go.ChangeShapes Go.WideShapes Go.ChangeAt Go.Deep
theorem open_sample12 {H : Type} {enc : TypeId × Value → H} {W : World} {r : Reach} {b0 : Nat} {v : Value} {d : DataW H} {p : List MemPlace}
    (hv : Value.okWide Tryz.prog W r b0 27 v) (h : DataW.Trod enc Tryz.prog W 0 (fun _ => true) true 27 v d p) :
    ∃ z : Int × Int, v = .agg #[.int .i64 z.1, .int .i64 z.2] ∧ in64 z.1 ∧ in64 z.2 := by
  simp only [Value.okWide, Tryz.underlying27] at hv
  obtain ⟨cs, rfl, hsz, _⟩ := hv
  obtain ⟨fuel, hf⟩ := h
  obtain ⟨l⟩ := cs
  have hf : DataW.trod enc Tryz.prog W 0 (fun _ => true) true fuel 27 l = some (d, p) := hf
  obtain ⟨u, v, rfl, h1, h2⟩ := trod_sm12 hf
  exact ⟨(u, v), rfl, h1, h2⟩
def SBox (w : World) (b : Nat) (T V : Int) : Prop := w.heap[b]? = some (.cells #[.int .i64 T, .int .i64 V] 27 (0, 0))
theorem SBox.new (w : World) (T V : Int) : SBox (w.alloc (.cells #[.int .i64 T, .int .i64 V] 27)) w.heap.size T V := heap_new w _
theorem SBox.two {w : World} {b : Nat} {T V : Int} (h : SBox w b T V) : w.cell? ⟨b, 0, none⟩ = some (.int .i64 T) ∧ w.cell? ⟨b, 1, none⟩ = some (.int .i64 V) :=
  ⟨by rw [cell_of h]; rfl, by rw [cell_of h]; rfl⟩
theorem SBox.keep {w w' : World} {b : Nat} {T V : Int} (h : SBox w b T V) (k : Below w.heap.size w w') : SBox w' b T V := (k.block b (heap_lt h)).trans h
variable {P : Program} {ops : Array Oper} {Q : Exit → Act → World → Prop} {md : Region.Mode} {S : World → Prop}
theorem take_on {i : Nat} {oi : Oper} {d : Option Tmp} {v : Value} {fuel : Nat} {listed l2 : Array Bool} {a a2 : Act} {w : World} (hi : ops[i]? = some oi)
    (hs : Region.noSelect ops = true) (hf : Region.free md ops listed i = true) (hr : (Region.ready md ops listed).contains i = true) (hd : oi.dst = d)
    (hQ : ∀ c a w, Q (.panic c) (a.put d v) w → Q (.panic c) a w) (hw : Region.wanted oi (yielded ops a.tmps) = true) (hy : ∀ w, S w → (execOp a.eval oi).run P w = .ok (.value v) w) (hS : S w)
    (hl : listed.setIfInBounds i true = l2) (ha : a.put d v = a2) (h : wpAnyH P md ops Q S fuel l2 a2 w) : wpAnyH P md ops Q S (fuel + 1) listed a w := by
  subst hd hl ha
  exact wpAnyH_take hi hs hf hr hQ (.inl ⟨hw, hy⟩) hS h
theorem take_off {i : Nat} {oi : Oper} {d : Option Tmp} {fuel : Nat} {listed l2 : Array Bool} {a a2 : Act} {w : World} (hi : ops[i]? = some oi)
    (hs : Region.noSelect ops = true) (hf : Region.free md ops listed i = true) (hr : (Region.ready md ops listed).contains i = true) (hd : oi.dst = d)
    (hQ : ∀ c a w, Q (.panic c) (a.put d undef) w → Q (.panic c) a w) (hw : Region.wanted oi (yielded ops a.tmps) = false) (hS : S w)
    (hl : listed.setIfInBounds i true = l2) (ha : a.put d undef = a2) (h : wpAnyH P md ops Q S fuel l2 a2 w) : wpAnyH P md ops Q S (fuel + 1) listed a w := by
  subst hd hl ha
  exact wpAnyH_take hi hs hf hr hQ (.inr ⟨hw, rfl⟩) hS h
end Go.Proofs.YtmifpfojhlmbkaaGreat
namespace Go.Proofs.YtmifpfojhlmbkaaGreat
set_option maxRecDepth 100000
set_option maxHeartbeats 16000000
namespace spaceWrites
open Go.ChangeShapes Go.WideShapes Go.ChangeAt Go.RowKit
open Go.ChangeMaps (open_string shut_string)
set_option linter.unusedVariables false
set_option linter.unusedSimpArgs false
theorem own : ownKnob Tryz.prog.godebug = none := by kernel_rfl
theorem walk (a : Option Addr) (len cap : Nat) (z : List Op12) (kb : ByteArray) (y : Int × Int) (w : World) (h : Ops12 w a len cap z) (_ : kb.size ≤ maxLen) (hy : in64 y.1 ∧ in64 y.2) :
    Calls Tryz.prog 4 #[.slice a len cap, .string kb, .agg #[.int .i64 y.1, .int .i64 y.2]] w fun e w' => e = .returned (.bool true) ∧ Below w.heap.size w w' := by
  obtain ⟨k, rfl⟩ : ∃ k, kb = bs k := ⟨tx kb, (bs_tx _).symm⟩
  obtain ⟨T, V⟩ := y
  have HV := Lib.hid hy.2
  have B1 := (Below.refl w.heap.size w).alloc (Nat.le_refl _) (.cells #[.int .i64 T, .int .i64 V] 27)
  have HO := Lib.hid (h.keep B1)
  have HB1 := Lib.hid B1
  have HX := Lib.hid (SBox.new w T V)
  have hs1 : w.heap.size ≤ (w.alloc (.cells #[.int .i64 T, .int .i64 V] 27)).heap.size := by simp
  have HS1 := Lib.hid hs1
  clear h hy B1 hs1
  go_enter Tryz.func4, Tryz.ntmps4
  go_wp2_with fail
  generalize hBp : w.heap.size = Bp at *
  have HBp := Lib.hid hBp
  generalize w.alloc (.cells #[.int .i64 T, .int .i64 V] 27) = W1 at *
  clear hBp
  refine (build12_any a len cap z W1 HO.out).mono ?_
  rintro e W2 ⟨x, m, P, rfl, X2, hf, hm⟩
  have X := Lib.hid X2
  have HF := Lib.hid (hf.mono (k := 900) (by omega))
  have HF1 := Lib.hid hf
  have HM := Lib.hid hm
  clear X2 hf hm HO
  have HEND : Hid (∀ W, Below W1.heap.size W1 W → Below Bp w W) := Lib.hid (fun W b => HB1.out.trans (b.mono HS1.out))
  clear HB1 HS1
  by_cases h100 : 100 < (bs k).size
  · have h100z : (100 : Int) < ((bs k).size : Int) := by omega
    go_wp2_with fail
    refine (known12_any _).mono ?_
    rintro e WE ⟨rfl, bE⟩
    have XE := Lib.hid (X.out.keep bE).bel
    go_wp2
    go_ret
    exact ⟨rfl, by rw [HBp.out]; exact HEND.out _ XE.out⟩
  have h100z : ¬ (100 : Int) < ((bs k).size : Int) := by omega
  go_wp2_with fail
  refine (hCopy W2 x m P X.out.sp (HF.out.mono (by omega))).mono ?_
  rintro e W3 ⟨y, my, rfl, y3, b3, hy3, hyo⟩
  have Y := Lib.hid (HOwn.new X.out.bel X.out.sz y3 b3 hy3 hyo)
  have HAP : Hid (∀ i, Own m P.E i → ¬ Own my P.E i) := Lib.hid (fun i f g => by have h1 := X.out.sp.lt f; have h2 := hyo i g; omega)
  replace X := Lib.hid (X.out.keep b3)
  clear y3 b3 hy3 hyo
  go_wp2_with fail
  refine (into12_any W3 x m P k X.out.sp (Nat.le_trans HF.out.g (by omega))).mono ?_
  rintro e W4 ⟨r, mb, rfl, hmb, b4⟩
  replace X := Lib.hid (X.out.keep b4)
  replace Y := Lib.hid (Y.out.keep b4)
  have HMB := Lib.hid hmb
  clear b4 hmb
  have br := (Below.refl W4.heap.size W4).alloc (Nat.le_refl _) (.cells #[.string (bs r.src), .string (bs r.dst), .int .i64 r.kind, .int .i64 r.size, .int .i64 r.align] 32)
  have X5 := Lib.hid (X.out.keep br)
  have Y5 := Lib.hid (Y.out.keep br)
  clear br X Y
  obtain ⟨y0, y1⟩ := (HX.out.keep X5.out.bel).two
  go_wp2_with fail
  generalize W4.alloc (.cells #[.string (bs r.src), .string (bs r.dst), .int .i64 r.kind, .int .i64 r.size, .int .i64 r.align] 32) = W5 at *
  refine (oAdd X5.out k T V 3 HF.out HV.out).mono ?_
  rintro e W6 ⟨rfl, m', oo, tt⟩
  have Y := Lib.hid (Y5.out.ts tt HAP.out X5.out.own)
  have HF9 := Lib.hid (aSp_inv (k := k) (T := T) (p := 3) X5.out.sp.ok HF1.out HM.out HV.out (by omega)).1
  have X := Lib.hid oo
  have HEG := Lib.hid (aSp_E P k T V 3)
  have HP := Lib.hid Y.out.sp.ok
  clear oo tt X5 Y5 y0 y1
  by_cases he : aErr P k T V 3 = 0
  · have HKEEP : Hid (∀ (q : Tx) (r : Ru) (b : Bool), q ≠ k → ((b = true ∧ r ∈ (aSp P k T V 3).G ∧ r.dst = q) ∨ (b = false ∧ ∀ u ∈ (aSp P k T V 3).G, u.dst ≠ q)) → (b = true → r.src ≠ k) → (aSp P k T V 3).S q = P.S q) := Lib.hid (fun q r b h1 h2 h3 => aSp_other HP.out he h1 (by rw [HEG.out.2] at h2; exact h2) h3)
    have HGET := Lib.hid (aSp_get HP.out he)
    have hk := (aErr_ok he).1
    have hk2 : P.has k := hk
    have HK := Lib.hid hk
    have hmb : mb = false := by
      rcases HMB.out with ⟨_, q1, q2⟩ | ⟨q, _⟩
      · exact absurd q2 (into_none.1 (aErr_ok he).2.1 r q1)
      · exact q
    subst hmb
    rw [he]
    have HSO := Lib.hid (fun W (u : SpAt W y my P) => hSeries_ok W y my P k u HK.out (Nat.le_trans (HF.out.z k HK.out) (by omega)))
    have HKD : Hid ((aSp P k T V 3).has k) := Lib.hid (by unfold Spc.has; rw [HEG.out.1]; exact hk2)
    clear hk hk2 he HMB
    generalize aSp P k T V 3 = P' at *
    go_wp2_with fail
    refine (HSO.out _ Y.out.sp).mono ?_
    rintro e W7 ⟨o7, rfl, _, _, b7⟩
    replace X := Lib.hid (X.out.keep b7)
    replace Y := Lib.hid (Y.out.keep b7)
    clear b7
    go_wp2_with fail
    refine (hKeys _ x m' P' X.out.sp (Nat.le_trans HF9.out.e (by omega))).mono ?_
    rintro e W9 ⟨v9, rfl, r9, b9⟩
    try clear h5 h5b h5c h5d
    obtain ⟨a9, c9, e9, hr9⟩ := r9.shape
    subst e9
    replace X := Lib.hid (X.out.keep b9)
    replace Y := Lib.hid (Y.out.keep b9)
    have K := Lib.hid hr9
    clear r9 hr9 b9
    obtain ⟨n9, hn9⟩ : ∃ n9, (keysL P'.E).length = n9 := ⟨_, rfl⟩
    have HN9 := Lib.hid hn9
    have hn9b : n9 ≤ 900 := by have h1 := HF9.out.e; have h2 := hn9; unfold keysL at h2; rw [List.length_map] at h2; omega
    rw [hn9] at K ⊢
    clear hn9
    go_wp2
    go_loopw [14] (fun i wr => ∃ j : Nat, j ≤ n9 ∧ i = .int .i64 (j : Int) ∧ Hid (HOwn W1.heap.size W1 wr x m' P') ∧ Hid (HOwn W1.heap.size W1 wr y my P) ∧ Hid (TxAt wr a9 n9 c9 (keysL P'.E))) (fun i _ => n9 - (intOf i).toNat)
    case atStart => exact ⟨0, Nat.zero_le _, rfl, X, Y, K⟩
    case round =>
      obtain ⟨j, hj, rfl, XR, YR, KR⟩ := hrel
      clear X Y K
      by_cases hjn : j < n9
      · have hjz : (j : Int) < (n9 : Int) := by omega
        have hj0 : (0 : Int) ≤ (j : Int) := by omega
        obtain ⟨kb, ko, ek, hkb, c0⟩ := KR.out.at_ j hjn
        subst ek
        have HKq : Hid (P'.has ((keysL P'.E).getD j [])) := Lib.hid (by
          show _ ∈ keysL P'.E
          rw [getD_get (by rw [HN9.out]; exact hjn)]; exact List.getElem_mem _)
        generalize hq : (keysL P'.E).getD j [] = q at *
        have HQ := Lib.hid hq
        clear hq
        have HKp : Hid (P.has q) := Lib.hid (by have h := HKq.out; unfold Spc.has at h ⊢; rw [HEG.out.1] at h; exact h)
        have hqq := eq_bs q k
        go_wp2_with fail
        refine (into12_any wr x m' P' q XR.out.sp (Nat.le_trans HF9.out.g (by omega))).mono ?_
        rintro e V0 ⟨r, b, rfl, hb, b0⟩
        have X0 := Lib.hid (XR.out.keep b0)
        have Y0 := Lib.hid (YR.out.keep b0)
        have K0 := Lib.hid (KR.out.keep b0)
        have HB := Lib.hid hb
        have c00 := (b0.cell (p := ⟨kb, ko + j, none⟩) hkb).trans c0
        clear XR YR KR b0 hb c0
        have br := (Below.refl V0.heap.size V0).alloc (Nat.le_refl _) (.cells #[.string (bs r.src), .string (bs r.dst), .int .i64 r.kind, .int .i64 r.size, .int .i64 r.align] 32)
        have X1 := Lib.hid (X0.out.keep br)
        have Y1 := Lib.hid (Y0.out.keep br)
        have K1 := Lib.hid (K0.out.keep br)
        have R1 := Lib.hid (BoxU.new 32 V0 r)
        have c1 := (br.cell (p := ⟨kb, ko + j, none⟩) (World.block_lt_of_cell? _ ⟨kb, ko + j, none⟩ c00)).trans c00
        obtain ⟨u0, u1, u2, u3, u4⟩ := R1.out.five
        have hsq := eq_bs r.src k
        clear br X0 Y0 K0 hkb c00 u1 u2 u3 u4
        go_upto_region 17 with fail
        generalize V0.alloc (.cells #[.string (bs r.src), .string (bs r.dst), .int .i64 r.kind, .int .i64 r.size, .int .i64 r.align] 32) = V1 at *
        generalize V0.heap.size = rb at *
        have hw1 : W1.heap.size ≤ V1.heap.size := X1.out.sz
        have HROW : Hid (∀ W, Below V1.heap.size V1 W → TxAt W (some ⟨kb, ko, none⟩) n9 c9 (keysL P'.E)) := Lib.hid (fun W b => K1.out.keep b)
        go_cut [17] from 81 to 134 (fun v wx => ∃ ob : Bool, v = .bool ob ∧ wx = V1 ∧ Hid (ob = false → q ≠ k ∧ (b = true → r.src ≠ k)))
        case first =>
          by_cases h1 : q = k
          · rw [decide_eq_true h1] at hqq
            go_wp2
            go_meet
            exact ⟨true, rfl, rfl, Lib.hid (fun h => by cases h)⟩
          · rw [decide_eq_false h1] at hqq
            cases b with
            | false =>
              go_wp2
              go_meet
              exact ⟨false, rfl, rfl, Lib.hid (fun _ => ⟨h1, fun h => by cases h⟩)⟩
            | true =>
              by_cases h2 : r.src = k
              · rw [decide_eq_true h2] at hsq
                go_wp2
                go_meet
                exact ⟨true, rfl, rfl, Lib.hid (fun h => by cases h)⟩
              · rw [decide_eq_false h2] at hsq
                go_wp2
                go_meet
                exact ⟨false, rfl, rfl, Lib.hid (fun _ => ⟨h1, fun _ => h2⟩)⟩
        case rest =>
          obtain ⟨ob, rfl, hwx, HOB⟩ := hcut
          replace hwx := hwx.symm
          subst hwx
          clear hqq hsq u0 HQ R1 K1
          cases ob with
          | true =>
            go_wp2_with fail
            go_quiet (fail)
            have hd := (show Drew V1 (V1.drewN nq) from ⟨nq, rfl⟩).below
            have X7 := Lib.hid (X1.out.keep hd)
            have Y7 := Lib.hid (Y1.out.keep hd)
            have KT5 := Lib.hid (HROW.out _ hd)
            generalize V1.drewN nq = V7 at *
            clear hd X1 Y1 c1
            go_wp2
            go_roundw
            case rel => exact ⟨j + 1, by omega, by go_num, X7, Y7, KT5⟩
            case measure => simp [intOf]; omega
          | false =>
            have hE := HKEEP.out q r b (HOB.out rfl).1 HB.out (HOB.out rfl).2
            obtain ⟨sq, hsq⟩ : ∃ sq, P.S q = sq := ⟨_, rfl⟩
            have HEp := Lib.hid hsq
            have HEq := Lib.hid (hE.trans hsq)
            have HSq := Lib.hid (show Std sq from hsq ▸ HP.out.std q HKp.out)
            have HZq := Lib.hid (show sq.z.length ≤ 900 from hsq ▸ HF.out.z q HKp.out)
            clear hE hsq
            go_wp2_with fail
            have BD := (Below.refl V1.heap.size V1).drew
            have X2 := Lib.hid (X1.out.keep BD)
            have Y2 := Lib.hid (Y1.out.keep BD)
            have c0 : V1.drew.cell? ⟨kb, ko + j, none⟩ = some (.string (bs q)) := c1
            have KT0 := Lib.hid (HROW.out _ BD)
            clear BD
            have HRs := Lib.hid (fun o sz W (u : SerAt W o sz sq) (hz : 128 ≤ sz) => (by have C := range_ser o sz sq 0 1099511627776 W u hz HSq.out.rise (Nat.le_trans HZq.out (by omega)); rw [all_in HSq.out] at C; exact C : Calls _ _ _ W (LaidP sq.z W)))
            unfold LaidP at HRs
            have HA1 := Lib.hid (fun W (u : SpAt W x m' P') => hSeries_ok W x m' P' q u HKq.out (by rw [HEq.out]; exact Nat.le_trans HZq.out (by omega)))
            have HA2 := Lib.hid (fun W (u : SpAt W y my P) => hSeries_ok W y my P q u HKp.out (by rw [HEp.out]; exact Nat.le_trans HZq.out (by omega)))
            rw [HEq.out] at HA1
            rw [HEp.out] at HA2
            have HZ1 := Lib.hid (X1.out.sp.ok.siz q HKq.out)
            have HZ2 := Lib.hid (Y1.out.sp.ok.siz q HKp.out)
            generalize P'.Z q = z1 at *
            generalize P.Z q = z2 at *
            generalize sq.z = sz at *
            obtain ⟨ns, hns⟩ : ∃ ns, sz.length = ns := ⟨_, rfl⟩
            rw [hns] at HRs
            clear hns
            have SM := Lib.hid (fun l1 l2 d1 d2 (W : World) (u : SampAt W l1 ns d1 sz) (v : SampAt W l2 ns d2 sz) => (by have C := same_any l1 l2 ns ns d1 d2 sz sz W u v; rw [decide_eq_true rfl] at C; exact C : Calls Tryz.prog 21 #[.slice l1 ns d1, .slice l2 ns d2] W fun e w' => e = .returned (.bool true) ∧ Drew W w'))
            go_region_held3 (fun w' => w'.cell? ⟨kb, ko + j, none⟩ = some (.string (bs q)))
              (first
                | exact E5.out
                | exact E4.out
                | exact E3.out
                | exact E2.out
                | exact E1.out
                | exact c0
                | fail)
              (first
                | (go_at_call 19
                   (with_reducible refine (HA1.out _ X2.out.sp).mono ?_)
                   rintro e U1 ⟨o1, rfl, _, s1, b1⟩
                   have E1 := Lib.hid ((b1.cell (p := ⟨kb, ko + j, none⟩) (World.block_lt_of_cell? _ ⟨kb, ko + j, none⟩ c0)).trans c0)
                   have KT1 := Lib.hid (KT0.out.keep b1)
                   have X3 := Lib.hid (X2.out.keep b1)
                   have Y3 := Lib.hid (Y2.out.keep b1)
                   have T1 := Lib.hid s1
                   clear s1 X2 Y2 b1)
                | (go_at_call 22
                   (with_reducible refine (HRs.out o1 z1 _ T1.out HZ1.out.1).mono ?_)
                   rintro e U2 ⟨l1, d1, rfl, la1, b2⟩
                   have E2 := Lib.hid ((b2.cell (p := ⟨kb, ko + j, none⟩) (World.block_lt_of_cell? _ ⟨kb, ko + j, none⟩ E1.out)).trans E1.out)
                   have KT2 := Lib.hid (KT1.out.keep b2)
                   have X4 := Lib.hid (X3.out.keep b2)
                   have Y4 := Lib.hid (Y3.out.keep b2)
                   have LA := Lib.hid la1
                   clear la1 T1 X3 Y3 b2)
                | (go_at_call 19
                   (with_reducible refine (HA2.out _ Y4.out.sp).mono ?_)
                   rintro e U3 ⟨o2, rfl, _, s2, b3⟩
                   have E3 := Lib.hid ((b3.cell (p := ⟨kb, ko + j, none⟩) (World.block_lt_of_cell? _ ⟨kb, ko + j, none⟩ E2.out)).trans E2.out)
                   have KT3 := Lib.hid (KT2.out.keep b3)
                   have X5 := Lib.hid (X4.out.keep b3)
                   have Y5 := Lib.hid (Y4.out.keep b3)
                   have LB := Lib.hid (LA.out.keepB b3)
                   have T2 := Lib.hid s2
                   clear s2 X4 Y4 LA b3)
                | (go_at_call 22
                   (with_reducible refine (HRs.out o2 z2 _ T2.out HZ2.out.1).mono ?_)
                   rintro e U4 ⟨l2, d2, rfl, la2, b4⟩
                   have E4 := Lib.hid ((b4.cell (p := ⟨kb, ko + j, none⟩) (World.block_lt_of_cell? _ ⟨kb, ko + j, none⟩ E3.out)).trans E3.out)
                   have KT4 := Lib.hid (KT3.out.keep b4)
                   have X6 := Lib.hid (X5.out.keep b4)
                   have Y6 := Lib.hid (Y5.out.keep b4)
                   have LC := Lib.hid (LB.out.keepB b4)
                   have LD := Lib.hid la2
                   clear la2 T2 X5 Y5 LB b4)
                | (go_at_call 21
                   have LC1 := LC.out.1
                   have LD1 := LD.out.1
                   (with_reducible refine (SM.out l1 l2 d1 d2 _ LC1 LD1).mono ?_)
                   rintro e U5 ⟨rfl, dr⟩
                   have b5 := dr.bel
                   have E5 := Lib.hid ((b5.cell (p := ⟨kb, ko + j, none⟩) (World.block_lt_of_cell? _ ⟨kb, ko + j, none⟩ E4.out)).trans E4.out)
                   have KT5 := Lib.hid (KT4.out.keep b5)
                   have X7 := Lib.hid (X6.out.keep b5)
                   have Y7 := Lib.hid (Y6.out.keep b5)
                   clear dr b5 X6 Y6 LC LD LC1 LD1)
                | fail)
            clear E1 E2 E3 E4 E5 c0 SM HA1 HA2 HRs HZ1 HZ2 X1 Y1
            go_wp2
            go_roundw
            case rel => exact ⟨j + 1, by omega, by go_num, X7, Y7, KT5⟩
            case measure => simp [intOf]; omega
      · have hjz : ¬ (j : Int) < (n9 : Int) := by omega
        have HN := Lib.hid (fun W (u : SpAt W x m' P') => hSeries_ok W x m' P' k u HKD.out (by have := HF9.out.z k HKD.out; omega))
        have HSi := Lib.hid (XR.out.sp.ok.siz k HKD.out)
        have HSd := Lib.hid (XR.out.sp.ok.std k HKD.out)
        have HZk := Lib.hid (HF9.out.z k HKD.out)
        clear HKEEP YR KR HSO
        generalize P'.S k = sk at *
        generalize P'.Z k = zk at *
        have BD := (Below.refl wr.heap.size wr).drew
        have X1 := Lib.hid (XR.out.keep BD)
        have c0 : wr.drew.cell? ⟨Bp, 0, none⟩ = some (.int .i64 T) := (HX.out.keep X1.out.bel).two.1
        clear BD XR
        go_wp2_with fail
        go_region_held3 (fun w' => w'.cell? ⟨Bp, 0, none⟩ = some (.int .i64 T))
          (first
            | exact E2.out
            | exact E1.out
            | exact c0
            | fail)
          (first
            | (go_at_call 19
               (with_reducible refine (HN.out _ X1.out.sp).mono ?_)
               rintro e U1 ⟨o1, rfl, _, s1, b1⟩
               have X2 := Lib.hid (X1.out.keep b1)
               have E1 := Lib.hid ((HX.out.keep X2.out.bel).two.1)
               have T1 := Lib.hid s1
               clear s1 b1)
            | (go_at_call 24
               (with_reducible refine (get_ser o1 zk sk T V 0 _ HGET.out T1.out HSi.out.1 HSd.out.rise (by have := HZk.out; omega)).mono ?_)
               rintro e U2 ⟨rfl, b2⟩
               have X3 := Lib.hid (X2.out.keep b2)
               have E2 := Lib.hid ((HX.out.keep X3.out.bel).two.1)
               clear b2)
            | fail)
        clear E1 E2 X1 X2 c0 T1 HN
        obtain ⟨y0, y1⟩ := (HX.out.keep X3.out.bel).two
        go_wp2_with fail
        refine (known12_any _).mono ?_
        rintro e WE ⟨rfl, bE⟩
        have XE := Lib.hid (X3.out.keep bE).bel
        go_wp2
        go_ret
        exact ⟨rfl, by rw [HBp.out]; exact HEND.out _ XE.out⟩
  · have hez : (aErr P k T V 3 == 0) = false := by simpa using he
    have HPP := Lib.hid (aSp_err he)
    have hcase : (¬ P.has k ∧ ((aErr P k T V 3 == 5) = true ∧ (aErr P k T V 3 != 5) = false ∧ decide (aErr P k T V 3 = 5) = true ∧ decide (¬ aErr P k T V 3 = 5) = false)) ∨ (P.has k ∧ mb = true ∧ ((aErr P k T V 3 == 10) = true ∧ (aErr P k T V 3 != 10) = false ∧ decide (aErr P k T V 3 = 10) = true ∧ decide (¬ aErr P k T V 3 = 10) = false)) ∨ (P.has k ∧ mb = false) := by
      by_cases h1 : P.has k
      · rcases HMB.out with ⟨q1, q2, q3⟩ | ⟨q, _⟩
        · exact .inr (.inl ⟨h1, q1, by rw [aErr_made T V 3 h1 q2 q3]; exact ⟨rfl, rfl, rfl, rfl⟩⟩)
        · exact .inr (.inr ⟨h1, q⟩)
      · exact .inl ⟨h1, by rw [aErr_no T V 3 h1]; exact ⟨rfl, rfl, rfl, rfl⟩⟩
    generalize aErr P k T V 3 = er at *
    generalize aSp P k T V 3 = P' at *
    clear he
    have HKEEP : Hid (∀ q, P.has q → P'.S q = P.S q) := Lib.hid (fun q _ => by rw [HPP.out])
    have HSN := Lib.hid (fun W (u : SpAt W y my P) (hk : ¬ P.has k) => hSeries_no W y my P k u hk)
    have HSO := Lib.hid (fun W (u : SpAt W y my P) (hk : P.has k) => hSeries_ok W y my P k u hk (Nat.le_trans (HF.out.z k hk) (by omega)))
    go_wp2_with fail
    rcases hcase with ⟨hk, h5, h5b, h5c, h5d⟩ | ⟨hk, rfl, h5, h5b, h5c, h5d⟩ | ⟨hk, rfl⟩
    all_goals
      first
        | (refine (HSN.out _ Y.out.sp hk).mono ?_
           rintro e W7 ⟨rfl, b7⟩)
        | (refine (HSO.out _ Y.out.sp hk).mono ?_
           rintro e W7 ⟨o7, rfl, _, _, b7⟩)
      replace X := Lib.hid (X.out.keep b7)
      replace Y := Lib.hid (Y.out.keep b7)
      clear b7 hk HSN HSO
      go_wp2_with fail
      refine (hKeys _ x m' P' X.out.sp (Nat.le_trans HF9.out.e (by omega))).mono ?_
      rintro e W9 ⟨v9, rfl, r9, b9⟩
      try clear h5 h5b h5c h5d
      obtain ⟨a9, c9, e9, hr9⟩ := r9.shape
      subst e9
      replace X := Lib.hid (X.out.keep b9)
      replace Y := Lib.hid (Y.out.keep b9)
      have K := Lib.hid hr9
      clear r9 hr9 b9
      obtain ⟨n9, hn9⟩ : ∃ n9, (keysL P'.E).length = n9 := ⟨_, rfl⟩
      have HN9 := Lib.hid hn9
      have hn9b : n9 ≤ 900 := by have h1 := HF9.out.e; have h2 := hn9; unfold keysL at h2; rw [List.length_map] at h2; omega
      rw [hn9] at K ⊢
      clear hn9
      go_wp2
      go_loopw [14] (fun i wr => ∃ j : Nat, j ≤ n9 ∧ i = .int .i64 (j : Int) ∧ Hid (HOwn W1.heap.size W1 wr x m' P') ∧ Hid (HOwn W1.heap.size W1 wr y my P) ∧ Hid (TxAt wr a9 n9 c9 (keysL P'.E))) (fun i _ => n9 - (intOf i).toNat)
      case atStart => exact ⟨0, Nat.zero_le _, rfl, X, Y, K⟩
      case round =>
        obtain ⟨j, hj, rfl, XR, YR, KR⟩ := hrel
        clear X Y K
        by_cases hjn : j < n9
        · have hjz : (j : Int) < (n9 : Int) := by omega
          have hj0 : (0 : Int) ≤ (j : Int) := by omega
          obtain ⟨kb, ko, ek, hkb, c0⟩ := KR.out.at_ j hjn
          subst ek
          have HKq : Hid (P'.has ((keysL P'.E).getD j [])) := Lib.hid (by
            show _ ∈ keysL P'.E
            rw [getD_get (by rw [HN9.out]; exact hjn)]; exact List.getElem_mem _)
          generalize hq : (keysL P'.E).getD j [] = q at *
          have HQ := Lib.hid hq
          clear hq
          have HKp : Hid (P.has q) := Lib.hid (by have h := HKq.out; unfold Spc.has at h ⊢; rw [HEG.out.1] at h; exact h)
          have hqq := eq_bs q k
          go_wp2_with fail
          refine (into12_any wr x m' P' q XR.out.sp (Nat.le_trans HF9.out.g (by omega))).mono ?_
          rintro e V0 ⟨r, b, rfl, hb, b0⟩
          have X0 := Lib.hid (XR.out.keep b0)
          have Y0 := Lib.hid (YR.out.keep b0)
          have K0 := Lib.hid (KR.out.keep b0)
          have HB := Lib.hid hb
          have c00 := (b0.cell (p := ⟨kb, ko + j, none⟩) hkb).trans c0
          clear XR YR KR b0 hb c0
          have br := (Below.refl V0.heap.size V0).alloc (Nat.le_refl _) (.cells #[.string (bs r.src), .string (bs r.dst), .int .i64 r.kind, .int .i64 r.size, .int .i64 r.align] 32)
          have X1 := Lib.hid (X0.out.keep br)
          have Y1 := Lib.hid (Y0.out.keep br)
          have K1 := Lib.hid (K0.out.keep br)
          have R1 := Lib.hid (BoxU.new 32 V0 r)
          have c1 := (br.cell (p := ⟨kb, ko + j, none⟩) (World.block_lt_of_cell? _ ⟨kb, ko + j, none⟩ c00)).trans c00
          obtain ⟨u0, u1, u2, u3, u4⟩ := R1.out.five
          have hsq := eq_bs r.src k
          clear br X0 Y0 K0 hkb c00 u1 u2 u3 u4
          go_upto_region 17 with fail
          generalize V0.alloc (.cells #[.string (bs r.src), .string (bs r.dst), .int .i64 r.kind, .int .i64 r.size, .int .i64 r.align] 32) = V1 at *
          generalize V0.heap.size = rb at *
          have hw1 : W1.heap.size ≤ V1.heap.size := X1.out.sz
          have HROW : Hid (∀ W, Below V1.heap.size V1 W → TxAt W (some ⟨kb, ko, none⟩) n9 c9 (keysL P'.E)) := Lib.hid (fun W b => K1.out.keep b)
          go_cut [17] from 81 to 134 (fun v wx => ∃ ob : Bool, v = .bool ob ∧ wx = V1 ∧ Hid (ob = false → q ≠ k ∧ (b = true → r.src ≠ k)))
          case first =>
            by_cases h1 : q = k
            · rw [decide_eq_true h1] at hqq
              go_wp2
              go_meet
              exact ⟨true, rfl, rfl, Lib.hid (fun h => by cases h)⟩
            · rw [decide_eq_false h1] at hqq
              cases b with
              | false =>
                go_wp2
                go_meet
                exact ⟨false, rfl, rfl, Lib.hid (fun _ => ⟨h1, fun h => by cases h⟩)⟩
              | true =>
                by_cases h2 : r.src = k
                · rw [decide_eq_true h2] at hsq
                  go_wp2
                  go_meet
                  exact ⟨true, rfl, rfl, Lib.hid (fun h => by cases h)⟩
                · rw [decide_eq_false h2] at hsq
                  go_wp2
                  go_meet
                  exact ⟨false, rfl, rfl, Lib.hid (fun _ => ⟨h1, fun _ => h2⟩)⟩
          case rest =>
            obtain ⟨ob, rfl, hwx, HOB⟩ := hcut
            replace hwx := hwx.symm
            subst hwx
            clear hqq hsq u0 HQ R1 K1
            have hE := HKEEP.out q HKp.out
            obtain ⟨sq, hsq⟩ : ∃ sq, P.S q = sq := ⟨_, rfl⟩
            have HEp := Lib.hid hsq
            have HEq := Lib.hid (hE.trans hsq)
            have HSq := Lib.hid (show Std sq from hsq ▸ HP.out.std q HKp.out)
            have HZq := Lib.hid (show sq.z.length ≤ 900 from hsq ▸ HF.out.z q HKp.out)
            clear hE hsq
            cases ob
            all_goals
              go_wp2_with fail
              have BD := (Below.refl V1.heap.size V1).drew
              have X2 := Lib.hid (X1.out.keep BD)
              have Y2 := Lib.hid (Y1.out.keep BD)
              have c0 : V1.drew.cell? ⟨kb, ko + j, none⟩ = some (.string (bs q)) := c1
              have KT0 := Lib.hid (HROW.out _ BD)
              clear BD
              have HRs := Lib.hid (fun o sz W (u : SerAt W o sz sq) (hz : 128 ≤ sz) => (by have C := range_ser o sz sq 0 1099511627776 W u hz HSq.out.rise (Nat.le_trans HZq.out (by omega)); rw [all_in HSq.out] at C; exact C : Calls _ _ _ W (LaidP sq.z W)))
              unfold LaidP at HRs
              have HA1 := Lib.hid (fun W (u : SpAt W x m' P') => hSeries_ok W x m' P' q u HKq.out (by rw [HEq.out]; exact Nat.le_trans HZq.out (by omega)))
              have HA2 := Lib.hid (fun W (u : SpAt W y my P) => hSeries_ok W y my P q u HKp.out (by rw [HEp.out]; exact Nat.le_trans HZq.out (by omega)))
              rw [HEq.out] at HA1
              rw [HEp.out] at HA2
              have HZ1 := Lib.hid (X1.out.sp.ok.siz q HKq.out)
              have HZ2 := Lib.hid (Y1.out.sp.ok.siz q HKp.out)
              generalize P'.Z q = z1 at *
              generalize P.Z q = z2 at *
              generalize sq.z = sz at *
              obtain ⟨ns, hns⟩ : ∃ ns, sz.length = ns := ⟨_, rfl⟩
              rw [hns] at HRs
              clear hns
              have SM := Lib.hid (fun l1 l2 d1 d2 (W : World) (u : SampAt W l1 ns d1 sz) (v : SampAt W l2 ns d2 sz) => (by have C := same_any l1 l2 ns ns d1 d2 sz sz W u v; rw [decide_eq_true rfl] at C; exact C : Calls Tryz.prog 21 #[.slice l1 ns d1, .slice l2 ns d2] W fun e w' => e = .returned (.bool true) ∧ Drew W w'))
              have henz : ¬ er = 0 := by simpa using hez
              refine wp_region_held_drew (S := (fun w' => w'.cell? ⟨kb, ko + j, none⟩ = some (.string (bs q)))) (by kernel_rfl) c0 (fun hHeld => ?_)
              refine take_on (i := 0) (d := some 111) (v := .int .i64 er) rfl (by kernel_rfl) (by kernel_rfl) (by kernel_rfl) rfl (fun _ _ _ h => h) (by kernel_rfl) (by intro w hSw; (try dsimp only at hSw); go_simp) (by assumption) rfl rfl ?_
              (try simp only [Act.put, List.setIfInBounds_toArray, List.set_cons_zero, List.set_cons_succ])
              refine take_on (i := 1) (d := some 112) (v := .bool true) rfl (by kernel_rfl) (by kernel_rfl) (by kernel_rfl) rfl (fun _ _ _ h => h) (by kernel_rfl) (by intro w hSw; (try dsimp only at hSw); go_simp) (by assumption) rfl rfl ?_
              (try simp only [Act.put, List.setIfInBounds_toArray, List.set_cons_zero, List.set_cons_succ])
              clear henz
              refine take_on (i := 2) (d := some 113) (v := .bool true) rfl (by kernel_rfl) (by kernel_rfl) (by kernel_rfl) rfl (fun _ _ _ h => h) (by kernel_rfl) (by intro w hSw; (try dsimp only at hSw); go_simp) (by assumption) rfl rfl ?_
              (try simp only [Act.put, List.setIfInBounds_toArray, List.set_cons_zero, List.set_cons_succ])
              refine take_off (i := 3) (d := some 114) rfl (by kernel_rfl) (by kernel_rfl) (by kernel_rfl) rfl (fun _ _ _ h => h) (by kernel_rfl) (by assumption) rfl rfl ?_
              (try simp only [Act.put, List.setIfInBounds_toArray, List.set_cons_zero, List.set_cons_succ])
              refine take_off (i := 4) (d := some 115) rfl (by kernel_rfl) (by kernel_rfl) (by kernel_rfl) rfl (fun _ _ _ h => h) (by kernel_rfl) (by assumption) rfl rfl ?_
              (try simp only [Act.put, List.setIfInBounds_toArray, List.set_cons_zero, List.set_cons_succ])
              refine take_on (i := 5) (d := some 116) (v := .bool true) rfl (by kernel_rfl) (by kernel_rfl) (by kernel_rfl) rfl (fun _ _ _ h => h) (by kernel_rfl) (by intro w hSw; clear hSw; kernel_rfl) (by assumption) rfl rfl ?_
              (try simp only [Act.put, List.setIfInBounds_toArray, List.set_cons_zero, List.set_cons_succ])
              refine take_on (i := 6) (d := some 117) (v := .bool true) rfl (by kernel_rfl) (by kernel_rfl) (by kernel_rfl) rfl (fun _ _ _ h => h) (by kernel_rfl) (by intro w hSw; (try dsimp only at hSw); go_simp) (by assumption) rfl rfl ?_
              (try simp only [Act.put, List.setIfInBounds_toArray, List.set_cons_zero, List.set_cons_succ])
              refine take_on (i := 7) (d := some 118) (v := .pointer (some ⟨x, 0, none⟩)) rfl (by kernel_rfl) (by kernel_rfl) (by kernel_rfl) rfl (fun _ _ _ h => h) (by kernel_rfl) (by intro w hSw; (try dsimp only at hSw); go_simp) (by assumption) rfl rfl ?_
              (try simp only [Act.put, List.setIfInBounds_toArray, List.set_cons_zero, List.set_cons_succ])
              refine take_on (i := 8) (d := some 119) (v := .slice (some ⟨kb, ko, none⟩) n9 c9) rfl (by kernel_rfl) (by kernel_rfl) (by kernel_rfl) rfl (fun _ _ _ h => h) (by kernel_rfl) (by intro w hSw; (try dsimp only at hSw); go_simp) (by assumption) rfl rfl ?_
              (try simp only [Act.put, List.setIfInBounds_toArray, List.set_cons_zero, List.set_cons_succ])
              refine take_on (i := 9) (d := some 120) (v := .int .i64 (j : Int)) rfl (by kernel_rfl) (by kernel_rfl) (by kernel_rfl) rfl (fun _ _ _ h => h) (by kernel_rfl) (by intro w hSw; (try dsimp only at hSw); go_simp) (by assumption) rfl rfl ?_
              (try simp only [Act.put, List.setIfInBounds_toArray, List.set_cons_zero, List.set_cons_succ])
              refine take_on (i := 10) (d := some 121) (v := .pointer (some ⟨kb, ko + j, none⟩)) rfl (by kernel_rfl) (by kernel_rfl) (by kernel_rfl) rfl (fun _ _ _ h => h) (by kernel_rfl) (by intro w hSw; (try dsimp only at hSw); go_simp) (by assumption) rfl rfl ?_
              (try simp only [Act.put, List.setIfInBounds_toArray, List.set_cons_zero, List.set_cons_succ])
              refine take_on (i := 11) (d := some 122) (v := .string (bs q)) rfl (by kernel_rfl) (by kernel_rfl) (by kernel_rfl) rfl (fun _ _ _ h => h) (by kernel_rfl) (by intro w hSw; (try dsimp only at hSw); go_simp) (by assumption) rfl rfl ?_
              (try simp only [Act.put, List.setIfInBounds_toArray, List.set_cons_zero, List.set_cons_succ])
              refine take_on (i := 14) (d := some 125) (v := .pointer (some ⟨y, 0, none⟩)) rfl (by kernel_rfl) (by kernel_rfl) (by kernel_rfl) rfl (fun _ _ _ h => h) (by kernel_rfl) (by intro w hSw; (try dsimp only at hSw); go_simp) (by assumption) rfl rfl ?_
              (try simp only [Act.put, List.setIfInBounds_toArray, List.set_cons_zero, List.set_cons_succ])
              refine take_on (i := 15) (d := some 126) (v := .slice (some ⟨kb, ko, none⟩) n9 c9) rfl (by kernel_rfl) (by kernel_rfl) (by kernel_rfl) rfl (fun _ _ _ h => h) (by kernel_rfl) (by intro w hSw; (try dsimp only at hSw); go_simp) (by assumption) rfl rfl ?_
              (try simp only [Act.put, List.setIfInBounds_toArray, List.set_cons_zero, List.set_cons_succ])
              refine take_on (i := 16) (d := some 127) (v := .int .i64 (j : Int)) rfl (by kernel_rfl) (by kernel_rfl) (by kernel_rfl) rfl (fun _ _ _ h => h) (by kernel_rfl) (by intro w hSw; (try dsimp only at hSw); go_simp) (by assumption) rfl rfl ?_
              (try simp only [Act.put, List.setIfInBounds_toArray, List.set_cons_zero, List.set_cons_succ])
              refine take_on (i := 17) (d := some 128) (v := .pointer (some ⟨kb, ko + j, none⟩)) rfl (by kernel_rfl) (by kernel_rfl) (by kernel_rfl) rfl (fun _ _ _ h => h) (by kernel_rfl) (by intro w hSw; (try dsimp only at hSw); go_simp) (by assumption) rfl rfl ?_
              (try simp only [Act.put, List.setIfInBounds_toArray, List.set_cons_zero, List.set_cons_succ])
              refine take_on (i := 18) (d := some 129) (v := .string (bs q)) rfl (by kernel_rfl) (by kernel_rfl) (by kernel_rfl) rfl (fun _ _ _ h => h) (by kernel_rfl) (by intro w hSw; (try dsimp only at hSw); go_simp) (by assumption) rfl rfl ?_
              (try simp only [Act.put, List.setIfInBounds_toArray, List.set_cons_zero, List.set_cons_succ])
              refine wpAnyH_ready (rs := [12]) (by kernel_rfl) (by simp) ?_
              refine AllReadyH.cons (o := _) rfl (fun K hK => ?_) AllReadyH.nil
              go_simp
              go_at_call 19
              (with_reducible refine (HA1.out _ X2.out.sp).mono ?_)
              rintro e U1 ⟨o1, rfl, _, s1, b1⟩
              have E1 := Lib.hid ((b1.cell (p := ⟨kb, ko + j, none⟩) (World.block_lt_of_cell? _ ⟨kb, ko + j, none⟩ c0)).trans c0)
              have KT1 := Lib.hid (KT0.out.keep b1)
              have X3 := Lib.hid (X2.out.keep b1)
              have Y3 := Lib.hid (Y2.out.keep b1)
              have T1 := Lib.hid s1
              clear s1 X2 Y2 b1
              go_wp2_with fail
              refine hK.out _ _ ?_ (fun hHeld2 => ?_)
              · exact E1.out
              clear hK K
              (try simp only [Act.put, List.setIfInBounds_toArray, List.set_cons_zero, List.set_cons_succ])
              refine wpAnyH_ready (rs := [13]) (by kernel_rfl) (by simp) ?_
              refine AllReadyH.cons (o := _) rfl (fun K hK => ?_) AllReadyH.nil
              go_simp
              go_at_call 22
              (with_reducible refine (HRs.out o1 z1 _ T1.out HZ1.out.1).mono ?_)
              rintro e U2 ⟨l1, d1, rfl, la1, b2⟩
              have E2 := Lib.hid ((b2.cell (p := ⟨kb, ko + j, none⟩) (World.block_lt_of_cell? _ ⟨kb, ko + j, none⟩ E1.out)).trans E1.out)
              have KT2 := Lib.hid (KT1.out.keep b2)
              have X4 := Lib.hid (X3.out.keep b2)
              have Y4 := Lib.hid (Y3.out.keep b2)
              have LA := Lib.hid la1
              clear la1 T1 X3 Y3 b2
              go_wp2_with fail
              refine hK.out _ _ ?_ (fun hHeld2 => ?_)
              · exact E2.out
              clear hK K
              (try simp only [Act.put, List.setIfInBounds_toArray, List.set_cons_zero, List.set_cons_succ])
              refine wpAnyH_ready (rs := [19]) (by kernel_rfl) (by simp) ?_
              refine AllReadyH.cons (o := _) rfl (fun K hK => ?_) AllReadyH.nil
              go_simp
              go_at_call 19
              (with_reducible refine (HA2.out _ Y4.out.sp).mono ?_)
              rintro e U3 ⟨o2, rfl, _, s2, b3⟩
              have E3 := Lib.hid ((b3.cell (p := ⟨kb, ko + j, none⟩) (World.block_lt_of_cell? _ ⟨kb, ko + j, none⟩ E2.out)).trans E2.out)
              have KT3 := Lib.hid (KT2.out.keep b3)
              have X5 := Lib.hid (X4.out.keep b3)
              have Y5 := Lib.hid (Y4.out.keep b3)
              have LB := Lib.hid (LA.out.keepB b3)
              have T2 := Lib.hid s2
              clear s2 X4 Y4 LA b3
              go_wp2_with fail
              refine hK.out _ _ ?_ (fun hHeld2 => ?_)
              · exact E3.out
              clear hK K
              (try simp only [Act.put, List.setIfInBounds_toArray, List.set_cons_zero, List.set_cons_succ])
              refine wpAnyH_ready (rs := [20]) (by kernel_rfl) (by simp) ?_
              refine AllReadyH.cons (o := _) rfl (fun K hK => ?_) AllReadyH.nil
              go_simp
              go_at_call 22
              (with_reducible refine (HRs.out o2 z2 _ T2.out HZ2.out.1).mono ?_)
              rintro e U4 ⟨l2, d2, rfl, la2, b4⟩
              have E4 := Lib.hid ((b4.cell (p := ⟨kb, ko + j, none⟩) (World.block_lt_of_cell? _ ⟨kb, ko + j, none⟩ E3.out)).trans E3.out)
              have KT4 := Lib.hid (KT3.out.keep b4)
              have X6 := Lib.hid (X5.out.keep b4)
              have Y6 := Lib.hid (Y5.out.keep b4)
              have LC := Lib.hid (LB.out.keepB b4)
              have LD := Lib.hid la2
              clear la2 T2 X5 Y5 LB b4
              go_wp2_with fail
              refine hK.out _ _ ?_ (fun hHeld2 => ?_)
              · exact E4.out
              clear hK K
              (try simp only [Act.put, List.setIfInBounds_toArray, List.set_cons_zero, List.set_cons_succ])
              refine wpAnyH_ready (rs := [21]) (by kernel_rfl) (by simp) ?_
              refine AllReadyH.cons (o := _) rfl (fun K hK => ?_) AllReadyH.nil
              go_simp
              go_at_call 21
              have LC1 := LC.out.1
              have LD1 := LD.out.1
              (with_reducible refine (SM.out l1 l2 d1 d2 _ LC1 LD1).mono ?_)
              rintro e U5 ⟨rfl, dr⟩
              have b5 := dr.bel
              have E5 := Lib.hid ((b5.cell (p := ⟨kb, ko + j, none⟩) (World.block_lt_of_cell? _ ⟨kb, ko + j, none⟩ E4.out)).trans E4.out)
              have KT5 := Lib.hid (KT4.out.keep b5)
              have X7 := Lib.hid (X6.out.keep b5)
              have Y7 := Lib.hid (Y6.out.keep b5)
              clear dr b5 X6 Y6 LC LD LC1 LD1
              go_wp2_with fail
              refine hK.out _ _ ?_ (fun hHeld2 => ?_)
              · exact E5.out
              clear hK K
              (try simp only [Act.put, List.setIfInBounds_toArray, List.set_cons_zero, List.set_cons_succ])
              refine take_on (i := 22) (d := some 133) (v := .bool false) rfl (by kernel_rfl) (by kernel_rfl) (by kernel_rfl) rfl (fun _ _ _ h => h) (by kernel_rfl) (by intro w hSw; (try dsimp only at hSw); go_simp) (by assumption) rfl rfl ?_
              (try simp only [Act.put, List.setIfInBounds_toArray, List.set_cons_zero, List.set_cons_succ])
              refine take_on (i := 23) (d := some 134) (v := .bool false) rfl (by kernel_rfl) (by kernel_rfl) (by kernel_rfl) rfl (fun _ _ _ h => h) (by kernel_rfl) (by intro w hSw; (try dsimp only at hSw); go_simp) (by assumption) rfl rfl ?_
              (try simp only [Act.put, List.setIfInBounds_toArray, List.set_cons_zero, List.set_cons_succ])
              refine wpAnyH_done (by kernel_rfl) ?_ _
              clear E1 E2 E3 E4 E5 c0 SM HA1 HA2 HRs HZ1 HZ2 X1 Y1
              go_wp2
              go_roundw
              case rel => exact ⟨j + 1, by omega, by go_num, X7, Y7, KT5⟩
              case measure => simp [intOf]; omega
        · have hjz : ¬ (j : Int) < (n9 : Int) := by omega
          go_wp2_with fail
          refine (hKeys _ y my P YR.out.sp (Nat.le_trans HF.out.e (by omega))).mono ?_
          rintro e WA ⟨va, rfl, ra, ba⟩
          obtain ⟨aa, ca, ea, hra⟩ := ra.shape
          subst ea
          have XA := Lib.hid (XR.out.keep ba)
          have KA := Lib.hid (KR.out.keep ba)
          have LA := Lib.hid hra
          clear ra hra ba XR YR KR
          have CS := same8_any a9 n9 c9 (keysL P'.E) aa (keysL P.E).length ca (keysL P.E) WA KA.out LA.out
          rw [decide_eq_true (by rw [HEG.out.1])] at CS
          replace CS := Lib.hid CS
          generalize (keysL P.E).length = na at *
          go_wp2_with fail
          refine CS.out.mono ?_
          rintro e WB ⟨rfl, dr⟩
          have XB := Lib.hid (XA.out.keep dr.bel)
          clear dr XA KA LA CS
          go_wp2_with fail
          refine (known12_any _).mono ?_
          rintro e WE ⟨rfl, bE⟩
          have XE := Lib.hid (XB.out.keep bE).bel
          go_wp2
          go_ret
          exact ⟨rfl, by rw [HBp.out]; exact HEND.out _ XE.out⟩
theorem lifted (os : Os) (started : os.Started) (H : Type) (enc : TypeId × Value → H) :
    ReturnsInHanded {} Tryz.checked os 4 .any (Rows.spaceWritesSpec.pre6 enc Tryz.prog Tryz.f4 Rows.spaceWritesRow.domain false) (Rows.spaceWritesSpec.post enc Tryz.prog Tryz.f4 false true false false) := by
  refine returnsInHanded_of_change (C := Tryz.checked) own started (by kernel_rfl) Tryz.func4
    (ChangeSpec.witness6 (enc := enc) (C := Tryz.checked) false ⟨#[], #[.slice none 0 0, .string ByteArray.empty, .agg #[.int .i64 0, .int .i64 0]], []⟩ 8 (by kernel_rfl) (by kernel_rfl) (by kernel_rfl) (by kernel_rfl)) ?_
  intro W base args ds gs before hval0 hW hcnd _
  have hval : ∀ (j : Nat) t v, Tryz.f4.params[j]? = some t → args[j]? = some v → Value.okWide Tryz.prog W .any base t v := hval0
  have hW' := hW
  obtain ⟨p, q, hA0, hV, rfl, hfz, hnd⟩ := hW
  have hA : DataW.TrodAll enc Tryz.prog W 0 (fun _ => true) true Tryz.f4.params.toList args.toList ds p := hA0
  rw [Tryz.params4] at hA hval
  obtain ⟨v0, vs0, d0, ds0, p0, q0, hargs, rfl, rfl, h0, r0⟩ := trodAll_cons hA
  obtain ⟨v1, vs1, d1, ds1, p1, q1, rfl, rfl, rfl, h1, r1⟩ := trodAll_cons r0
  obtain ⟨v2, vs2, d2, ds2, p2, q2, rfl, rfl, rfl, h2, r2⟩ := trodAll_cons r1
  obtain ⟨rfl, rfl, rfl⟩ := trodAll_nil r2
  obtain rfl : args = #[v0, v1, v2] := by cases args; simp_all
  obtain ⟨rfl, rfl⟩ := trodVars_none hV
  obtain ⟨a0, len0, cap0, rfl⟩ := okWide_slice Tryz.underlying22 (hval 0 22 v0 rfl rfl)
  have k0 := h0
  have lt0 : ∀ x ∈ p0, x.block < W.heap.size := by obtain ⟨m, hm⟩ := k0; exact DataW.trod_lt m _ _ _ hm
  obtain ⟨z0, w0⟩ := open_ops12 h0
  obtain ⟨a1, rfl, rfl, rfl, w1⟩ := open_string Tryz.underlying9 (hval 1 9 v1 rfl rfl) h1
  have k2 := h2
  have lt2 : ∀ x ∈ p2, x.block < W.heap.size := by obtain ⟨m, hm⟩ := k2; exact DataW.trod_lt m _ _ _ hm
  obtain ⟨a2, rfl, w2⟩ := open_sample12 (hval 2 27 v2 rfl rfl) h2
  clear hA0 hval0
  refine (walk a0 len0 cap0 z0 a1 a2 W w0 w1 w2).mono fun e W' ⟨he, bel⟩ => ?_
  subst he
  exact ⟨_, rfl, _, _, _, [], _, [], hW', trodAll_mk1 (shut_bool Tryz.underlying4 _), (trodAll_cons_mk (Below.trod laidOut (by kernel_rfl) (of_decide_eq_true (by kernel_rfl)) k0 bel lt0) (trodAll_cons_mk (shut_string Tryz.underlying9 w1) (trodAll_cons_mk (Below.trod laidOut (by kernel_rfl) (of_decide_eq_true (by kernel_rfl)) k2 bel lt2) trodAll_mk0))), rfl, bel.frame _, fun h => by cases h⟩
theorem closed : joinedFacts Tryz.pinned.checked.prog 4 Tryz.f4 Rows.spaceWritesSpec Rows.spaceWritesRow = true := by
  unfold joinedFacts
  repeat' (with_reducible refine Bool.and_eq_true_iff.2 ⟨?_, ?_⟩)
  all_goals as_aux_lemma => kernel_rfl
theorem over : Rows.spaceWritesRow.holds Tryz.pinned (OpenSpec.ofChange Rows.spaceWritesSpec) :=
  OpenClaim.holds_of_wide 4 Tryz.f4 rfl rfl rfl rfl rfl rfl rfl ⟨rfl, rfl, rfl, rfl, rfl⟩ rfl rfl rfl rfl rfl (by kernel_rfl) Tryz.func4 closed
    (of_decide_eq_true (by kernel_rfl)) (by unfold Func.isWrapper; first | (rw [if_pos (by decide +kernel)]; kernel_rfl) | (rw [if_neg (by decide +kernel)]; exact ⟨rfl, rfl⟩))
    (fun os started H enc _ => lifted os started H enc)
theorem proved : Rows.SpaceWritesSaid := over
end spaceWrites
theorem spaceWrites_holds : Rows.SpaceWritesSaid := spaceWrites.proved
#print axioms spaceWrites_holds
end Go.Proofs.YtmifpfojhlmbkaaGreat
