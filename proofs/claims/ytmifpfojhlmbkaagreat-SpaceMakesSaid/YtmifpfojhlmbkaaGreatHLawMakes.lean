/-
  The statement 'SpaceMakes' of layer 12: each closed bucket of each rule has in the destination what the source's samples in it make.
  No condition on the arguments.
-/
import Derived.Test.YtmifpfojhlmbkaaGreatJ0
import Derived.Test.YtmifpfojhlmbkaaGreatJ1
import Derived.Test.YtmifpfojhlmbkaaGreatJ2
import Derived.Test.YtmifpfojhlmbkaaGreatJ3
import Derived.Test.YtmifpfojhlmbkaaGreatJ4
import Derived.Test.YtmifpfojhlmbkaaGreatJ5
import Derived.Test.YtmifpfojhlmbkaaGreatJ6
import Derived.Test.YtmifpfojhlmbkaaGreatJ7
import Derived.Test.YtmifpfojhlmbkaaGreatJ8
import Derived.Test.YtmifpfojhlmbkaaGreatJ9
import Derived.Test.YtmifpfojhlmbkaaGreatJ10
import Derived.Test.YtmifpfojhlmbkaaGreatJ11
import Derived.Test.YtmifpfojhlmbkaaGreatJ12
import Derived.Test.YtmifpfojhlmbkaaGreatJ13
import Derived.Test.YtmifpfojhlmbkaaGreatJ14
import Derived.Test.YtmifpfojhlmbkaaGreatJ15
import Derived.Test.YtmifpfojhlmbkaaGreatJ16
import Derived.Test.YtmifpfojhlmbkaaGreatJ17
import Derived.Test.YtmifpfojhlmbkaaGreatJ18
import Derived.Test.YtmifpfojhlmbkaaGreatJ19
import Derived.Test.YtmifpfojhlmbkaaGreatJ20
import Derived.Test.YtmifpfojhlmbkaaGreatJ21
import Derived.Test.YtmifpfojhlmbkaaGreatJ22
import Derived.Test.YtmifpfojhlmbkaaGreatJ23
import Derived.Test.YtmifpfojhlmbkaaGreatJ24
import Derived.Test.YtmifpfojhlmbkaaGreatJ25
import Derived.Test.YtmifpfojhlmbkaaGreatJ26
import Derived.Test.YtmifpfojhlmbkaaGreatJ27
import Derived.Test.YtmifpfojhlmbkaaGreatJ28
import Derived.Test.YtmifpfojhlmbkaaGreatJ29
import Derived.Test.YtmifpfojhlmbkaaGreatJ30
import Derived.Test.YtmifpfojhlmbkaaGreatJ31
import Derived.Test.YtmifpfojhlmbkaaGreatJ32
import Derived.Test.YtmifpfojhlmbkaaGreatJ33
import Derived.Test.YtmifpfojhlmbkaaGreatJ34
import Derived.Test.YtmifpfojhlmbkaaGreatJ35
import Derived.Test.YtmifpfojhlmbkaaGreatJ36
import Derived.Test.YtmifpfojhlmbkaaGreatJ37
import Derived.Test.YtmifpfojhlmbkaaGreatJ38
import Derived.Test.YtmifpfojhlmbkaaGreatJ39
import Derived.Test.YtmifpfojhlmbkaaGreatJ40
import Derived.Test.YtmifpfojhlmbkaaGreatJ41
import Derived.Test.YtmifpfojhlmbkaaGreatJ42
import Derived.Test.YtmifpfojhlmbkaaGreatJ43
import Derived.Test.YtmifpfojhlmbkaaGreatJ44
import Derived.Test.YtmifpfojhlmbkaaGreatJ45
import Derived.Test.YtmifpfojhlmbkaaGreatJ46
import Derived.Test.YtmifpfojhlmbkaaGreatJ47
import Derived.Test.YtmifpfojhlmbkaaGreatJ48
import Derived.Test.YtmifpfojhlmbkaaGreatRows
import Derived.ChangeOld
namespace Go.Proofs.YtmifpfojhlmbkaaGreat
set_option maxRecDepth 100000
set_option maxHeartbeats 16000000
set_option linter.unusedVariables false
set_option linter.unusedSimpArgs false
theorem getL_parts {x y u : List (Int × Int)} {t : Int} (hy : Rising y) (hx : ∀ a ∈ x, a.1 < t) (hu : ∀ a ∈ u, t < a.1) : getL (x ++ y ++ u) t = getL y t := by
  have h2 := upt_le y t
  unfold getL
  rw [bef_parts hy hx hu, upt_parts hy hx hu]
  by_cases h : bef y t < upt y t
  · rw [if_pos h, if_pos (by omega), vOf3_mid x y u _ (by omega)]
  · rw [if_neg h, if_neg (by omega)]
end Go.Proofs.YtmifpfojhlmbkaaGreat
namespace Go.Proofs.YtmifpfojhlmbkaaGreat
set_option maxRecDepth 100000
set_option maxHeartbeats 16000000
open Go.RowKit
set_option linter.unusedVariables false
set_option linter.unusedSimpArgs false
def PairP (x : Int × Int) (w : World) (e : Ending) (w' : World) : Prop := e = .returned (two x) ∧ Below w.heap.size w w'
theorem get_ok4 (b : Nat) (sz : Int) (z : List (Int × Int)) (t : Int) (w : World) (h : PCk w b sz z) (hs : 1 ≤ sz) (hr : Rising z) (hn : z.length ≤ 1048576) :
    Calls Tryz.prog 70 #[.pointer (some ⟨b, 0, none⟩), .int .i64 t] w (PairP (getL z t) w) := by
  obtain ⟨a, cap, hc, hl⟩ := h
  have HC := Lib.hid hc
  have HL := Lib.hid hl
  have hb := heap_lt hc
  have c1 : w.cell? ⟨b, 1, none⟩ = some (.slice a z.length cap) := by rw [cell_of hc]; rfl
  have HR := Lib.hid hr
  have hle := bef_le z t
  have HAT := Lib.hid (at_time hr t)
  have HG := Lib.hid (show getL z t = if bef z t < upt z t then (vOf z (bef z t), 0) else (0, 5) from rfl)
  clear hc hl hr
  by_cases h1 : bef z t = z.length
  · have HK := Lib.hid h1
    have HNO := Lib.hid (show getL z t = (0, 5) from by rw [HG.out, if_neg (fun e => by have := HAT.out.1 e; omega)])
    have hq : (((bef z t : Nat) : Int) == ((z.length : Nat) : Int)) = true := by simp [h1]
    clear h1 hle
    go_enter Tryz.func70, Tryz.ntmps70
    go_wp2_with fail
    refine (isNone_no b sz _ _ HC.out hs).mono ?_
    rintro e w' ⟨rfl, rfl⟩
    go_wp2_with fail
    refine (before_any a _ cap z t _ HL.out HR.out hn).mono ?_
    rintro e w' ⟨rfl, b1⟩
    rw [← b1.cell hb] at c1
    generalize bef z t = k at *
    go_wp2
    go_ret2
    exact ⟨by rw [HNO.out]; rfl, b1⟩
  · have h1' : bef z t < z.length := by omega
    have hq : (((bef z t : Nat) : Int) == ((z.length : Nat) : Int)) = false := by rw [beq_eq_false_iff_ne]; omega
    obtain ⟨p, o, rfl, hp, x0, x1⟩ := HL.out.1.at_ (bef z t) h1'
    by_cases h2 : tOf z (bef z t) = t
    · have HV := Lib.hid (show getL z t = (vOf z (bef z t), 0) from by rw [HG.out, if_pos (HAT.out.2 ⟨h1', h2⟩)])
      have hq2 : (t != t) = false := by simp
      rw [h2] at x0
      clear h1 hle h2
      go_enter Tryz.func70, Tryz.ntmps70
      go_wp2_with fail
      refine (isNone_no b sz _ _ HC.out hs).mono ?_
      rintro e w' ⟨rfl, rfl⟩
      go_wp2_with fail
      refine (before_any _ _ cap z t _ HL.out HR.out hn).mono ?_
      rintro e w' ⟨rfl, b1⟩
      rw [← b1.cell hb] at c1
      rw [← b1.cell hp] at x0 x1
      generalize vOf z (bef z t) = v at *
      generalize bef z t = k at *
      go_wp2
      go_ret2
      exact ⟨by rw [HV.out]; rfl, b1⟩
    · have HNO := Lib.hid (show getL z t = (0, 5) from by rw [HG.out, if_neg (fun e => h2 (HAT.out.1 e).2)])
      have hq2 : (tOf z (bef z t) != t) = true := by rw [bne_iff_ne]; exact h2
      clear h1 hle h2
      go_enter Tryz.func70, Tryz.ntmps70
      go_wp2_with fail
      refine (isNone_no b sz _ _ HC.out hs).mono ?_
      rintro e w' ⟨rfl, rfl⟩
      go_wp2_with fail
      refine (before_any _ _ cap z t _ HL.out HR.out hn).mono ?_
      rintro e w' ⟨rfl, b1⟩
      rw [← b1.cell hb] at c1
      rw [← b1.cell hp] at x0 x1
      generalize tOf z (bef z t) = tt at *
      generalize bef z t = k at *
      go_wp2
      go_ret2
      exact ⟨by rw [HNO.out]; rfl, b1⟩
end Go.Proofs.YtmifpfojhlmbkaaGreat
namespace Go.Proofs.YtmifpfojhlmbkaaGreat
set_option maxRecDepth 100000
set_option maxHeartbeats 16000000
open Go.RowKit
set_option linter.unusedVariables false
set_option linter.unusedSimpArgs false
theorem get_at (b : Nat) (sz : Int) (z : List (Int × Int)) (t x er : Int) (w : World) (hG : getL z t = (x, er)) (h : PCk w b sz z) (hs : 1 ≤ sz) (hr : Rising z) (hn : z.length ≤ 1048576) :
    Calls Tryz.prog 70 #[.pointer (some ⟨b, 0, none⟩), .int .i64 t] w fun e w' => e = .returned (.tuple #[.int .i64 x, .int .i64 er]) ∧ Below w.heap.size w w' := by
  have := get_ok4 b sz z t w h hs hr hn
  rw [hG] at this
  exact this
end Go.Proofs.YtmifpfojhlmbkaaGreat
namespace Go.Proofs.YtmifpfojhlmbkaaGreat
set_option maxRecDepth 100000
set_option maxHeartbeats 16000000
open Go.RowKit
set_option linter.unusedVariables false
set_option linter.unusedSimpArgs false
theorem wpList_append_lst {w : World} {ops : Array Oper} {rest : List Oper} {o : Oper} {a : Act} {Q : Exit → Act → World → Prop} (hw : Region.wanted o (yielded ops a.tmps) = true) (s x : Operand)
    (ho : o.op = .call { callee := .builtin .append, args := #[s, x], argTypes := #[52, 52] })
    (base : Nat) (v : Value) (n : Nat) (z0 : List (Int × Int)) (hs : a.eval s = v) (hn : z0.length = n) (hown : w.ownsRow base 27 2 v n (smpCells z0))
    (ax : Option Addr) (m c : Nat) (z : List (Int × Int)) (hx : a.eval x = .slice ax m c) (hl : Lst w ax m c z) (hb : n + m ≤ 1048576) (hbase : base ≤ w.heap.size)
    (h : ∀ v' w', w'.ownsRow base 27 2 v' (n + m) (smpCells (z0 ++ z)) → w.grownBy w' v.ownBlock → wpList Tryz.prog ops Q rest (a.put o.dst v') w') : wpList Tryz.prog ops Q (o :: rest) a w := by
  obtain ⟨i0, hi, hz0, hz1, hz2⟩ := info_parts info_samp
  refine wpList_step fun K hK => ?_
  rw [if_pos hw]
  have hm := hl.len
  cases ax with
  | none =>
    have h0 : m = 0 := by
      rcases hl.1.2.2.2.2 with e | ⟨b, off, e, _⟩
      · exact e
      · cases e
    subst h0
    have e0 : z = [] := List.eq_nil_of_length_eq_zero hm
    subst e0
    have hrun := run_append_nothing (P := Tryz.prog) (w := w) base 52 o.type 27 i0 2 c Tryz.underlying52 hi v n _ hown
    unfold Oper.wp
    simp [execOp, ho, resolve, invoke, builtin, hs, hx, hrun, Result.andThen]
    refine hK _ _ (h v w ?_ (gb_refl _ _))
    simpa using hown
  | some ad =>
    refine wp_append_own w s x 52 ho base 27 i0 _ 2 16 Tryz.underlying52 hi hz0 hz1 hz2 rfl (by omega) v n _ hs hown ad m c (smpCells z) hx (by rw [smpCells_length, hm]) ?_ (smpCells_one z) (by unfold maxLen; omega) (by omega) hbase ?_
    · intro j u hj
      by_cases h0 : 0 < m
      · obtain ⟨ad', e, hc⟩ := src_cells hl h0
        cases e
        exact hc j u hj
      · have : z = [] := List.eq_nil_of_length_eq_zero (by omega)
        subst this
        simp [smpCells] at hj
    · intro v' w' h2 h3 _
      refine hK _ _ (h v' w' ?_ h3)
      rw [smpCells_append]; exact h2
theorem owns_empty (w : World) (base : Nat) (hb : base ≤ w.heap.size) : (w.alloc (.cells #[] 27)).ownsRow base 27 2 (.slice (some ⟨w.heap.size, 0, none⟩) 0 0) 0 (smpCells []) :=
  ⟨rfl, .inr ⟨w.heap.size, 0, #[], rfl, hb, heap_new w _, Nat.le_refl _, by unfold maxLen; omega, rfl, rfl⟩⟩
end Go.Proofs.YtmifpfojhlmbkaaGreat
namespace Go.Proofs.YtmifpfojhlmbkaaGreat
set_option maxRecDepth 100000
set_option maxHeartbeats 16000000
set_option linter.unusedVariables false
set_option linter.unusedSimpArgs false
theorem get_flat {Z : List (List (Int × Int))} (hr : Rising Z.flatten) (hn : ∀ z ∈ Z, z ≠ []) (h0 : 0 < Z.length) (T : Int) :
    getL Z.flatten T = getL (Z.getD (begL Z T - 1) []) T := by
  obtain ⟨h1, h2, h3⟩ := put_place hr hn h0 T
  have hy : Rising (Z.getD (begL Z T - 1) []) := flat_rising hr (by rw [chunk_get h1]; exact List.getElem_mem h1)
  have e : Z.flatten = (Z.take (begL Z T - 1)).flatten ++ Z.getD (begL Z T - 1) [] ++ (Z.drop (begL Z T - 1 + 1)).flatten := by
    conv => lhs; rw [split_at h1]
    simp
  rw [e]; exact getL_parts hy h2 h3
theorem get_none {Z : List (List (Int × Int))} (hr : Rising Z.flatten) (hn : ∀ z ∈ Z, z ≠ []) (T : Int) (h : begL Z T = 0) : getL Z.flatten T = (0, 5) := by
  refine getL_no hr fun x hx => ?_
  have := beg_behind hr hn T x (by rw [h, List.drop_zero]; exact hx)
  omega
end Go.Proofs.YtmifpfojhlmbkaaGreat
namespace Go.Proofs.YtmifpfojhlmbkaaGreat
set_option maxRecDepth 100000
set_option maxHeartbeats 16000000
open Go.RowKit
set_option linter.unusedVariables false
set_option linter.unusedSimpArgs false
theorem get_ser (b : Nat) (sz : Int) (s : Ser) (t x er : Int) (w : World) (hG : getL s.z t = (x, er)) (h : SerAt w b sz s) (hs : 128 ≤ sz) (hr : Rising s.z) (hn : s.z.length ≤ 100000) :
    Calls Tryz.prog 24 #[.pointer (some ⟨b, 0, none⟩), .int .i64 t] w fun e w' => e = .returned (.tuple #[.int .i64 x, .int .i64 er]) ∧ Below w.heap.size w w' := by
  obtain ⟨L, ⟨a, cap, hc, hpt, hk⟩, hg, hf⟩ := h
  have hne := good_ne hg
  have hrz : Rising (zs L).flatten := by rw [hf]; exact hr
  have hLn : L.length ≤ 100000 := by have := flat_ge hne; rw [hf, zs_len] at this; omega
  have hlz : (zs L).flatten.length ≤ 1048576 := by rw [hf]; omega
  have hbl := begL_le (zs L) t
  rw [zs_len] at hbl
  have HC := Lib.hid hc
  have HPT := Lib.hid hpt
  have HK := Lib.hid hk
  have HRZ := Lib.hid hrz
  have HNE := Lib.hid hne
  have HA := Lib.hid (show winA (zs L) t t = begL (zs L) t - 1 from by unfold winA; rw [if_neg (by omega)])
  have HB := Lib.hid (show winB (zs L) t t = begL (zs L) t from by unfold winB; rw [if_neg (by omega)])
  have HG : Hid (0 < begL (zs L) t → getL ((zs L).getD (begL (zs L) t - 1) []) t = (x, er)) := Lib.hid (fun h0 => by rw [← get_flat hrz hne (by rw [zs_len]; omega) t, hf]; exact hG)
  have HG0 : Hid (begL (zs L) t = 0 → (x, er) = (0, 5)) := Lib.hid (fun h0 => by rw [← hG, ← hf]; exact get_none hrz hne t h0)
  have hblt := hc.lt
  clear hc hpt hk hrz hne hg hf hG hr
  obtain ⟨k, hkk⟩ : ∃ k, begL (zs L) t = k := ⟨_, rfl⟩
  rw [hkk] at hbl HA HB HG HG0
  clear hkk
  obtain ⟨NL, hNL⟩ : ∃ NL, L.length = NL := ⟨_, rfl⟩
  rw [hNL] at HC HPT hbl hLn
  have HNL := Lib.hid hNL
  clear hNL
  have cw : w.cell? ⟨b, 5, none⟩ = some (.slice a NL cap) := by rw [cell_of HC.out]; rfl
  by_cases hk0 : k = 0
  · subst hk0
    have HX := Lib.hid (HG0.out rfl)
    clear HG HG0
    go_enter Tryz.func24, Tryz.ntmps24
    go_wp2_with fail
    refine (sNone_no b sz _ _ _ _ _ w HC.out (by omega)).mono ?_
    rintro e w' ⟨rfl, rfl⟩
    go_wp2_with fail
    refine (window_any a NL cap L sz t t w HPT.out HK.out (by omega) hlz HRZ.out HNE.out (by omega)).mono ?_
    rintro e W1 ⟨rfl, b1⟩
    rw [HA.out, HB.out]
    go_wp2
    go_ret2
    have := HX.out
    simp only [Prod.mk.injEq] at this
    exact ⟨by rw [this.1, this.2]; rfl, b1⟩
  · have hkl : k - 1 < NL := by omega
    obtain ⟨pb, po, hpe, hpb, x0⟩ := HPT.out.at_ (k - 1) hkl
    subst hpe
    unfold ptr at x0
    have hkL : k - 1 < L.length := by rw [HNL.out]; exact hkl
    have HQ : Hid (PCk w ((bl L).getD (k - 1) 0) sz ((zs L).getD (k - 1) [])) := Lib.hid (HK.out.get (i := k - 1) hkL)
    have HZR := Lib.hid (show Rising ((zs L).getD (k - 1) []) from flat_rising HRZ.out (by rw [chunk_get (by rw [zs_len]; exact hkL)]; exact List.getElem_mem _))
    have hzl : ((zs L).getD (k - 1) []).length ≤ 1048576 := Nat.le_trans (flat_len_get _ _) hlz
    have HGG := Lib.hid (HG.out (by omega))
    clear HG HG0
    generalize (bl L).getD (k - 1) 0 = q at *
    generalize (zs L).getD (k - 1) [] = z at *
    obtain ⟨k', rfl⟩ : ∃ k', k = k' + 1 := ⟨k - 1, by omega⟩
    rw [Nat.add_sub_cancel] at x0 HA
    have hkb : ((k' : Int) == ((k' + 1 : Nat) : Int)) = false := by rw [beq_eq_false_iff_ne]; omega
    have hkb2 : ((k' : Int) == (k' : Int) + 1) = false := by rw [beq_eq_false_iff_ne]; omega
    have hk1 : (0 : Int) ≤ (k' : Int) := by omega
    have hk2 : (k' : Int) < (NL : Int) := by omega
    go_enter Tryz.func24, Tryz.ntmps24
    go_wp2_with fail
    refine (sNone_no b sz _ _ _ _ _ w HC.out (by omega)).mono ?_
    rintro e w' ⟨rfl, rfl⟩
    go_wp2_with fail
    refine (window_any _ NL cap L sz t t w HPT.out HK.out (by omega) hlz HRZ.out HNE.out (by omega)).mono ?_
    rintro e W1 ⟨rfl, b1⟩
    rw [HA.out, HB.out]
    have c1 := (b1.cell (p := ⟨b, 5, none⟩) hblt).trans cw
    have x1 := (b1.cell (p := ⟨pb, po + k', none⟩) hpb).trans x0
    have HQ1 : Hid (PCk W1 q sz z) := Lib.hid (CAt.keepB HQ.out b1)
    go_wp2_with fail
    refine (get_at q sz z t x er _ HGG.out HQ1.out (by omega) HZR.out hzl).mono ?_
    rintro e W2 ⟨rfl, b2⟩
    have B2 := b1.trans (b2.mono b1.size)
    clear c1 x1 b1 b2
    go_wp2
    go_ret2
    exact ⟨rfl, B2⟩
end Go.Proofs.YtmifpfojhlmbkaaGreat
namespace Go.Proofs.YtmifpfojhlmbkaaGreat
set_option maxRecDepth 100000
set_option maxHeartbeats 16000000
set_option linter.unusedVariables false
set_option linter.unusedSimpArgs false
theorem made_get {r : Ru} {s d : Ser} (h : MadeR r s d) {t : Int} (t0 : 0 ≤ t) (t1 : t < 1099511627776) (hc : ¬ startB s.mx r.size r.align < endB (startB t r.size r.align) r.size r.align) (hl : ¬ startB t r.size r.align < s.line) (hd : ¬ startB t r.size r.align < d.line) :
    getL d.z (startB t r.size r.align) = if isBk r s (startB t r.size r.align) then (vBk r s (startB t r.size r.align), 0) else (0, 5) :=
  h.get t t0 t1 (show endB _ _ _ ≤ _ by omega) (by omega) (by omega)
theorem all_in {s : Ser} (h : Std s) : s.z.filter (inB 0 1099511627776) = s.z := by
  rw [List.filter_eq_self]
  intro x hx
  have := h.time x hx
  unfold inB
  simp; omega
end Go.Proofs.YtmifpfojhlmbkaaGreat
namespace Go.Proofs.YtmifpfojhlmbkaaGreat
set_option maxRecDepth 100000
set_option maxHeartbeats 16000000
open Go.RowKit
set_option linter.unusedVariables false
set_option linter.unusedSimpArgs false
theorem fold_bk (r : Ru) (s : Ser) (b e : Int) (he : e = endB b r.size r.align - 1) (a : Option Addr) (len cap : Nat) (w : World) (h : Lst w a len cap (s.z.filter (inB b e))) (hl : len < 4611686018427387904) :
    Calls Tryz.prog 57 #[.int .i64 r.kind, .slice a len cap] w fun e' w' => e' = .returned (.tuple #[.int .i64 (vBk r s b), .bool (isBk r s b)]) ∧ Below w.heap.size w w' := by
  subst he
  exact fold_any r.kind a len cap (s.z.filter (inB b (endB b r.size r.align - 1))) w h.1 hl
theorem made12_any (w : World) (x : Nat) (m : Mem) (P : Spc) (r : Ru) (h : SpAt w x m P) (hf : Few 900 P) (hr : r ∈ P.G) (hm : MadeR r (P.S r.src) (P.S r.dst)) :
    Calls Tryz.prog 13 #[.pointer (some ⟨x, 0, none⟩), ruV r] w fun e w' => e = .returned (.bool true) ∧ Below w.heap.size w w' := by
  have B1 := (Below.refl w.heap.size w).alloc (Nat.le_refl _) (.cells #[.string (bs r.src), .string (bs r.dst), .int .i64 r.kind, .int .i64 r.size, .int .i64 r.align] 32)
  have X1 := BoxU.new 32 w r
  obtain ⟨k1, k2⟩ := h.ok.ends r hr
  have HSa := Lib.hid (fun W (q : SpAt W x m P) => hSeries_ok W x m P r.src q k1 (Nat.le_trans (hf.z _ k1) (by omega)))
  have HSb := Lib.hid (fun W (q : SpAt W x m P) => hSeries_ok W x m P r.dst q k2 (Nat.le_trans (hf.z _ k2) (by omega)))
  have HR := Lib.hid (h.ok.gG.right r hr)
  have HS1 := Lib.hid (h.ok.std _ k1)
  have HS2 := Lib.hid (h.ok.std _ k2)
  have HZ1 := Lib.hid (h.ok.siz _ k1)
  have HZ2 := Lib.hid (h.ok.siz _ k2)
  have HN1 := Lib.hid (hf.z _ k1)
  have HN2 := Lib.hid (hf.z _ k2)
  have HM := Lib.hid hm
  have H1 := Lib.hid (h.keep B1)
  have HB1 := Lib.hid B1
  have HX := Lib.hid X1
  clear h hf hr hm B1 X1 k1 k2
  generalize P.S r.src = s at *
  generalize P.S r.dst = d at *
  generalize P.Z r.src = z1 at *
  generalize P.Z r.dst = z2 at *
  unfold ruV
  obtain ⟨y0, y1, y2, y3, y4⟩ := HX.out.five
  go_enter Tryz.func13, Tryz.ntmps13
  go_wp2_with fail
  generalize hBB : w.heap.size = B0 at *
  generalize hW1 : w.alloc (.cells #[.string (bs r.src), .string (bs r.dst), .int .i64 r.kind, .int .i64 r.size, .int .i64 r.align] 32) = W1 at *
  have HBB := Lib.hid hBB
  clear hW1 hBB
  have hB0 : B0 < W1.heap.size := HX.out.lt
  refine (HSa.out _ H1.out).mono ?_
  rintro e W2 ⟨o1, rfl, ho1, s1, b2⟩
  have H2 := Lib.hid (H1.out.keep b2)
  have HX2 := Lib.hid (HX.out.keep b2)
  have HA2 := Lib.hid s1
  have HB2 := Lib.hid (HB1.out.trans (b2.mono (Nat.le_of_lt hB0)))
  have HO1 := Lib.hid (Nat.lt_of_lt_of_le hB0 ho1)
  clear s1 b2 ho1 y0 y1 y2 y3 y4 H1 HX HB1 HSa hB0
  obtain ⟨y0, y1, y2, y3, y4⟩ := HX2.out.five
  go_wp2_with fail
  refine (HSb.out _ H2.out).mono ?_
  rintro e W3 ⟨o2, rfl, ho2, s2, b3⟩
  have HX3 := Lib.hid (HX2.out.keep b3)
  have HA3 := Lib.hid (HA2.out.keepB b3)
  have HD3 := Lib.hid s2
  have HB3 := Lib.hid (HB2.out.trans (b3.mono (Nat.le_of_lt HX2.out.lt)))
  clear s2 b3 ho2 y0 y1 y2 y3 y4 H2 HX2 HA2 HB2 HSb
  have HRa := Lib.hid (fun W (q : SerAt W o1 z1 s) => (by have C := range_ser o1 z1 s 0 1099511627776 W q HZ1.out.1 HS1.out.rise (by have := HN1.out; omega); rw [all_in HS1.out] at C; exact C : Calls _ _ _ W (LaidP s.z W)))
  have HRb := Lib.hid (fun W (q : SerAt W o2 z2 d) => (by have C := range_ser o2 z2 d 0 1099511627776 W q HZ2.out.1 HS2.out.rise (by have := HN2.out; omega); rw [all_in HS2.out] at C; exact C : Calls _ _ _ W (LaidP d.z W)))
  unfold LaidP at HRa HRb
  have HTM := Lib.hid (show ∀ q ∈ s.z ++ d.z, 0 ≤ q.1 ∧ q.1 < 1099511627776 from fun q hq => (List.mem_append.1 hq).elim (HS1.out.time q) (HS2.out.time q))
  have H64 := Lib.hid (show All64 (s.z ++ d.z) from fun q hq => (List.mem_append.1 hq).elim (HS1.out.all q) (HS2.out.all q))
  have hn1 := HN1.out
  have hn2 := HN2.out
  obtain ⟨n1, e1⟩ : ∃ n1, s.z.length = n1 := ⟨_, rfl⟩
  obtain ⟨n2, e2⟩ : ∃ n2, d.z.length = n2 := ⟨_, rfl⟩
  have HE1 := Lib.hid e1
  have HE2 := Lib.hid e2
  rw [e1] at HRa hn1
  rw [e2] at HRb hn2
  clear e1 e2
  go_wp2_with fail
  refine (HRa.out _ HA3.out).mono ?_
  rintro e W4 ⟨a4, c4, rfl, l4, b4⟩
  have HX4 := Lib.hid (HX3.out.keep b4)
  have HA4 := Lib.hid (HA3.out.keepB b4)
  have HD4 := Lib.hid (HD3.out.keepB b4)
  have HL4 := Lib.hid l4
  have HB4 := Lib.hid (HB3.out.trans (b4.mono (Nat.le_of_lt HX3.out.lt)))
  clear l4 b4 HX3 HA3 HD3 HB3
  go_wp2_with fail
  refine (HRb.out _ HD4.out).mono ?_
  rintro e W5 ⟨a5, c5, rfl, l5, b5⟩
  have HX5 := Lib.hid (HX4.out.keep b5)
  have HA5 := Lib.hid (HA4.out.keepB b5)
  have HD5 := Lib.hid (HD4.out.keepB b5)
  have LX := HL4.out.keepB b5
  have LY := l5
  have HB5 := Lib.hid (HB4.out.trans (b5.mono (Nat.le_of_lt HX4.out.lt)))
  clear l5 b5 HX4 HA4 HD4 HB4 HL4 HRa HRb
  have ge := (Below.refl W5.heap.size W5).alloc (Nat.le_refl _) (.cells #[] 27)
  have oe := owns_empty W5 W5.heap.size (Nat.le_refl _)
  have se : W5.heap.size ≤ (W5.alloc (.cells #[] 27)).heap.size := by simp
  have LXe := LX.keepB ge
  simp only []
  go_wp2_with (at_builtin; (refine wpList_append_lst ?_ (.tmp 34) (.tmp 35) rfl W5.heap.size _ 0 [] rfl rfl oe _ n1 c4 s.z rfl LXe (by omega) se ?_))
  intro v1 W6 o6 g1
  have b9 := ge.grown g1 se (fun k hk => (oe.lt k hk).1)
  have LY9 := LY.keepB b9
  have s9 : W5.heap.size ≤ W6.heap.size := b9.size
  clear ge oe g1 se LXe LX
  go_wp2_with (at_builtin; (refine wpList_append_lst ?_ (.tmp 36) (.tmp 37) rfl W5.heap.size _ n1 s.z rfl HE1.out o6 _ n2 c5 d.z rfl LY9 (by omega) s9 ?_))
  intro v2 W7 o7 g2
  have b10 := b9.grown g2 s9 (fun k hk => (o6.lt k hk).1)
  have HX7 := Lib.hid (HX5.out.keep b10)
  have HA7 := Lib.hid (HA5.out.keepB b10)
  have HD7 := Lib.hid (HD5.out.keepB b10)
  have HB7 := Lib.hid (HB5.out.trans (b10.mono (Nat.le_of_lt HX5.out.lt)))
  obtain ⟨ad, cp, rfl, sa⟩ := owns_lst (z := s.z ++ d.z) (n := n1 + n2) (by rw [List.length_append, HE1.out, HE2.out]) H64.out (by omega) o7
  have HL7 := Lib.hid sa
  clear o6 o7 g2 b9 b10 LY LY9 s9 HX5 HA5 HD5 HB5 sa
  obtain ⟨n, hn⟩ : ∃ n, n1 + n2 = n := ⟨_, rfl⟩
  rw [hn] at HL7 ⊢
  have HLL := Lib.hid (show (s.z ++ d.z).length = n from HL7.out.len)
  have hnn : n ≤ 1800 := by omega
  clear hn hn1 hn2
  have HMX := Lib.hid (fun W (q : SerAt W o1 z1 s) => smax_ok o1 z1 s W q (by have := HZ1.out.1; omega))
  have HLA := Lib.hid (fun W (q : SerAt W o1 z1 s) => sline_ok o1 z1 s W q (by have := HZ1.out.1; omega))
  have HLB := Lib.hid (fun W (q : SerAt W o2 z2 d) => sline_ok o2 z2 d W q (by have := HZ2.out.1; omega))
  go_wp2
  go_loopw [9] (fun i wr => ∃ j : Nat, j ≤ n ∧ i = .int .i64 (j : Int) ∧ Hid (Below W7.heap.size W7 wr)) (fun i _ => n - (intOf i).toNat)
  case atStart => exact ⟨0, Nat.zero_le _, rfl, Lib.hid (Below.refl _ _)⟩
  case round =>
    obtain ⟨j, hj, rfl, HW⟩ := hrel
    by_cases hjn : j < n
    · have hjz : (j : Int) < (n : Int) := by omega
      have hj0 : (0 : Int) ≤ (j : Int) := by omega
      have X := Lib.hid (HX7.out.keep HW.out)
      have SA := Lib.hid (HA7.out.keepB HW.out)
      have SD := Lib.hid (HD7.out.keepB HW.out)
      obtain ⟨pb, po, ea, hpb, t0, t1⟩ := (HL7.out.keepB HW.out).1.at_ j hjn
      subst ea
      have htm := HTM.out (tOf (s.z ++ d.z) j, vOf (s.z ++ d.z) j) (at_mem (by rw [HLL.out]; exact hjn))
      simp only at htm
      generalize tOf (s.z ++ d.z) j = t at *
      have hrb := HR.out.2.2.2.2
      have hb0 := startB_range hrb htm.1 (show t ≤ 1099511627776 by omega)
      have hbe := endB_in hrb (b := startB t r.size r.align) (by omega)
      obtain ⟨b, hb⟩ : ∃ b, startB t r.size r.align = b := ⟨_, rfl⟩
      obtain ⟨el, hel⟩ : ∃ el, endB b r.size r.align = el := ⟨_, rfl⟩
      have HBE := Lib.hid hb
      have HEL := Lib.hid hel
      rw [hb] at hb0 hbe
      rw [hel] at hbe
      have HGT := Lib.hid (made_get HM.out htm.1 htm.2)
      rw [hb, hel] at HGT
      have hstt : ∀ W, Calls Tryz.prog 55 #[.int .i64 t, .int .i64 r.size, .int .i64 r.align] W fun e w' => e = .returned (.int .i64 b) ∧ W = w' := fun W => by have C := start_any t r.size r.align W; rw [hb] at C; exact C
      have hend : ∀ W, Calls Tryz.prog 56 #[.int .i64 b, .int .i64 r.size, .int .i64 r.align] W fun e w' => e = .returned (.int .i64 el) ∧ W = w' := fun W => by have C := end_any b r.size r.align W; rw [hel] at C; exact C
      have HST := Lib.hid hstt
      have HEN := Lib.hid hend
      have HSM := Lib.hid (fun W => start_any s.mx r.size r.align W)
      obtain ⟨sm, hsm⟩ : ∃ sm, startB s.mx r.size r.align = sm := ⟨_, rfl⟩
      rw [hsm] at HSM HGT
      obtain ⟨smx, hsmx⟩ : ∃ smx, s.mx = smx := ⟨_, rfl⟩
      obtain ⟨la, hla⟩ : ∃ la, s.line = la := ⟨_, rfl⟩
      obtain ⟨lb, hlb⟩ : ∃ lb, d.line = lb := ⟨_, rfl⟩
      rw [hla, hlb] at HGT
      rw [hsmx] at HMX HSM
      rw [hla] at HLA
      rw [hlb] at HLB
      have HW2 := Lib.hid (show IntKind.i64.wrap (el - 1) = el - 1 from IntWalk.i64_in _ ⟨by omega, by omega⟩)
      clear hb hel hstt hend hrb htm hsm hsmx hla hlb
      obtain ⟨y0, y1, y2, y3, y4⟩ := X.out.five
      go_wp2_with fail
      go_quiet (with_reducible exact quietL (HST.out _))
      have hd := (show Drew wr (wr.drewN nq) from ⟨nq, rfl⟩).below
      have X8 := Lib.hid (X.out.keep hd)
      have SA8 := Lib.hid (SA.out.keepB hd)
      have SD8 := Lib.hid (SD.out.keepB hd)
      have HW8 := Lib.hid (HW.out.trans (hd.mono HW.out.size))
      generalize wr.drewN nq = W8 at *
      clear hd X SA SD HW t0 t1 hpb y0 y1 y2 y3 y4 HST
      obtain ⟨y0, y1, y2, y3, y4⟩ := X8.out.five
      go_wp2_with fail
      refine (HEN.out _).mono ?_
      rintro e w' ⟨rfl, rfl⟩
      have QM := Lib.hid (fun n => HMX.out (W8.drewN n) (SA8.out.keepB (show Drew W8 (W8.drewN n) from ⟨n, rfl⟩).below))
      have QA := Lib.hid (fun n => HLA.out (W8.drewN n) (SA8.out.keepB (show Drew W8 (W8.drewN n) from ⟨n, rfl⟩).below))
      have QB := Lib.hid (fun n => HLB.out (W8.drewN n) (SD8.out.keepB (show Drew W8 (W8.drewN n) from ⟨n, rfl⟩).below))
      by_cases c0 : smx < 0
      · skip
        go_wp2_with fail
        have q0 : decide (smx < 0) = true := decide_eq_true (by omega)
        go_quiet (first
                | (go_at_call 42; with_reducible exact quietL (QM.out _))
                | (go_at_call 55; with_reducible exact quietL (HSM.out _))
                | (with_reducible exact quietL (QA.out _))
                | (with_reducible exact quietL (QB.out _)))
        have hd := (show Drew W8 (W8.drewN nq) from ⟨nq, rfl⟩).below
        have X9 := Lib.hid (X8.out.keep hd)
        have SA9 := Lib.hid (SA8.out.keepB hd)
        have SD9 := Lib.hid (SD8.out.keepB hd)
        have HW9 := Lib.hid (HW8.out.trans (hd.mono HW8.out.size))
        generalize W8.drewN nq = W9 at *
        clear hd X8 SA8 SD8 HW8 y0 y1 y2 y3 y4 QM QA QB
        clear q0
        go_wp2
        go_roundw
        case rel => exact ⟨j + 1, by omega, by go_num, HW9⟩
        case measure => simp [intOf]; omega
      by_cases c1 : sm < el
      · skip
        go_wp2_with fail
        have q0 : decide (smx < 0) = false := decide_eq_false (by omega)
        have q1 : decide (sm < el) = true := decide_eq_true (by omega)
        go_quiet (first
                | (go_at_call 42; with_reducible exact quietL (QM.out _))
                | (go_at_call 55; with_reducible exact quietL (HSM.out _))
                | (with_reducible exact quietL (QA.out _))
                | (with_reducible exact quietL (QB.out _)))
        have hd := (show Drew W8 (W8.drewN nq) from ⟨nq, rfl⟩).below
        have X9 := Lib.hid (X8.out.keep hd)
        have SA9 := Lib.hid (SA8.out.keepB hd)
        have SD9 := Lib.hid (SD8.out.keepB hd)
        have HW9 := Lib.hid (HW8.out.trans (hd.mono HW8.out.size))
        generalize W8.drewN nq = W9 at *
        clear hd X8 SA8 SD8 HW8 y0 y1 y2 y3 y4 QM QA QB
        clear q0 q1
        go_wp2
        go_roundw
        case rel => exact ⟨j + 1, by omega, by go_num, HW9⟩
        case measure => simp [intOf]; omega
      by_cases c2 : b < la
      · skip
        go_wp2_with fail
        have q0 : decide (smx < 0) = false := decide_eq_false (by omega)
        have q1 : decide (sm < el) = false := decide_eq_false (by omega)
        have q2 : decide (b < la) = true := decide_eq_true (by omega)
        go_quiet (first
                | (go_at_call 42; with_reducible exact quietL (QM.out _))
                | (go_at_call 55; with_reducible exact quietL (HSM.out _))
                | (with_reducible exact quietL (QA.out _))
                | (with_reducible exact quietL (QB.out _)))
        have hd := (show Drew W8 (W8.drewN nq) from ⟨nq, rfl⟩).below
        have X9 := Lib.hid (X8.out.keep hd)
        have SA9 := Lib.hid (SA8.out.keepB hd)
        have SD9 := Lib.hid (SD8.out.keepB hd)
        have HW9 := Lib.hid (HW8.out.trans (hd.mono HW8.out.size))
        generalize W8.drewN nq = W9 at *
        clear hd X8 SA8 SD8 HW8 y0 y1 y2 y3 y4 QM QA QB
        clear q0 q1 q2
        go_wp2
        go_roundw
        case rel => exact ⟨j + 1, by omega, by go_num, HW9⟩
        case measure => simp [intOf]; omega
      by_cases c3 : b < lb
      · skip
        go_wp2_with fail
        have q0 : decide (smx < 0) = false := decide_eq_false (by omega)
        have q1 : decide (sm < el) = false := decide_eq_false (by omega)
        have q2 : decide (b < la) = false := decide_eq_false (by omega)
        have q3 : decide (b < lb) = true := decide_eq_true (by omega)
        go_quiet (first
                | (go_at_call 42; with_reducible exact quietL (QM.out _))
                | (go_at_call 55; with_reducible exact quietL (HSM.out _))
                | (with_reducible exact quietL (QA.out _))
                | (with_reducible exact quietL (QB.out _)))
        have hd := (show Drew W8 (W8.drewN nq) from ⟨nq, rfl⟩).below
        have X9 := Lib.hid (X8.out.keep hd)
        have SA9 := Lib.hid (SA8.out.keepB hd)
        have SD9 := Lib.hid (SD8.out.keepB hd)
        have HW9 := Lib.hid (HW8.out.trans (hd.mono HW8.out.size))
        generalize W8.drewN nq = W9 at *
        clear hd X8 SA8 SD8 HW8 y0 y1 y2 y3 y4 QM QA QB
        clear q0 q1 q2 q3
        go_wp2
        go_roundw
        case rel => exact ⟨j + 1, by omega, by go_num, HW9⟩
        case measure => simp [intOf]; omega
      go_wp2_with fail
      have q0 : decide (smx < 0) = false := decide_eq_false (by omega)
      have q1 : decide (sm < el) = false := decide_eq_false (by omega)
      have q2 : decide (b < la) = false := decide_eq_false (by omega)
      have q3 : decide (b < lb) = false := decide_eq_false (by omega)
      go_quiet (first
              | (go_at_call 42; with_reducible exact quietL (QM.out _))
              | (go_at_call 55; with_reducible exact quietL (HSM.out _))
              | (with_reducible exact quietL (QA.out _))
              | (with_reducible exact quietL (QB.out _)))
      have hd := (show Drew W8 (W8.drewN nq) from ⟨nq, rfl⟩).below
      have X9 := Lib.hid (X8.out.keep hd)
      have SA9 := Lib.hid (SA8.out.keepB hd)
      have SD9 := Lib.hid (SD8.out.keepB hd)
      have HW9 := Lib.hid (HW8.out.trans (hd.mono HW8.out.size))
      generalize W8.drewN nq = W9 at *
      clear hd X8 SA8 SD8 HW8 y0 y1 y2 y3 y4 QM QA QB
      clear q0 q1 q2 q3
      replace HGT := Lib.hid (HGT.out c1 c2 c3)
      clear c0 c1 c2 c3
      have HRC := Lib.hid (fun W (q : SerAt W o1 z1 s) => range_ser o1 z1 s b (el - 1) W q HZ1.out.1 HS1.out.rise (by have := HN1.out; omega))
      unfold LaidP at HRC
      have HFL : (s.z.filter (inB b (el - 1))).length ≤ 900 := Nat.le_trans (List.length_filter_le _ _) HN1.out
      have HFO := Lib.hid (fun (a : Option Addr) (len cap : Nat) (W : World) (q : Lst W a len cap (s.z.filter (inB b (el - 1)))) (hl : len < 4611686018427387904) => fold_bk r s b (el - 1) (by rw [HEL.out]) a len cap W q hl)
      generalize s.z.filter (inB b (el - 1)) = L at *
      obtain ⟨nl, hnl⟩ : ∃ nl, L.length = nl := ⟨_, rfl⟩
      rw [hnl] at HRC HFL
      clear hnl
      obtain ⟨y0, y1, y2, y3, y4⟩ := X9.out.five
      have hw2 := HW2.out
      go_wp2_with fail
      go_region_held3 (fun w' => w'.cell? ⟨B0, 2, none⟩ = some (.int .i64 r.kind))
        (first
          | exact HE4.out
          | exact HE3.out
          | go_keep
          | fail)
        (first
          | (go_at_call 22
             (with_reducible refine (HRC.out _ (SA9.out.keepB (Below.refl _ W9).drew)).mono ?_)
             rintro e W3 ⟨la, lc, rfl, l3, b3⟩
             have L3 := Lib.hid l3
             have HE3 := Lib.hid (show W3.cell? ⟨B0, 2, none⟩ = some (.int .i64 r.kind) from (X9.out.keep ((Below.refl _ W9).drew.trans b3)).x2))
          | (go_at_call 57
             (with_reducible refine (HFO.out la nl lc _ L3.out (by omega)).mono ?_)
             rintro e W4 ⟨rfl, b4⟩
             have HE4 := Lib.hid (show W4.cell? ⟨B0, 2, none⟩ = some (.int .i64 r.kind) from (X9.out.keep (((Below.refl _ W9).drew.trans b3).trans (b4.mono b3.size))).x2))
          | fail)
      have B4 := ((Below.refl _ W9).drew.trans b3).trans (b4.mono b3.size)
      have X10 := Lib.hid (X9.out.keep B4)
      have SD10 := Lib.hid (SD9.out.keepB B4)
      have HW10 := Lib.hid (HW9.out.trans (B4.mono HW9.out.size))
      clear B4 b3 b4 L3 l3 HE3 y0 y1 y2 y3 y4 HRC HFO HFL X9 SA9 SD9 HW9 hw2
      by_cases hi : isBk r s b
      · rw [if_pos hi] at HGT
        have HG := Lib.hid (get_ser o2 z2 d b (vBk r s b) 0 _ HGT.out SD10.out HZ2.out.1 HS2.out.rise (by have := HN2.out; omega))
        rw [hi]
        clear hi HGT
        generalize vBk r s b = vb at *
        go_wp2_with fail
        refine HG.out.mono ?_
        rintro e W11 ⟨rfl, b11⟩
        have HW11 := Lib.hid (HW10.out.trans (b11.mono HW10.out.size))
        clear b11 HW10 SD10 X10 HG
        go_wp2
        go_roundw
        case rel => exact ⟨j + 1, by omega, by go_num, HW11⟩
        case measure => simp [intOf]; omega
      · rw [if_neg hi] at HGT
        have HG := Lib.hid (get_ser o2 z2 d b 0 5 _ HGT.out SD10.out HZ2.out.1 HS2.out.rise (by have := HN2.out; omega))
        rw [show isBk r s b = false from by simpa using hi]
        clear hi HGT
        generalize vBk r s b = vb at *
        go_wp2_with fail
        refine HG.out.mono ?_
        rintro e W11 ⟨rfl, b11⟩
        have HW11 := Lib.hid (HW10.out.trans (b11.mono HW10.out.size))
        clear b11 HW10 SD10 X10 HG
        go_wp2
        go_roundw
        case rel => exact ⟨j + 1, by omega, by go_num, HW11⟩
        case measure => simp [intOf]; omega
    · have hjz : ¬ (j : Int) < (n : Int) := by omega
      have HF := Lib.hid (HB7.out.trans (HW.out.mono (Nat.le_of_lt HX7.out.lt)))
      go_wp2
      go_ret
      exact ⟨rfl, by rw [HBB.out]; exact HF.out⟩
end Go.Proofs.YtmifpfojhlmbkaaGreat
namespace Go.Proofs.YtmifpfojhlmbkaaGreat
set_option maxRecDepth 100000
set_option maxHeartbeats 16000000
namespace spaceMakes
open Go.ChangeShapes Go.WideShapes Go.ChangeAt Go.RowKit
open Go.ChangeMaps (open_string shut_string)
set_option linter.unusedVariables false
set_option linter.unusedSimpArgs false
theorem own : ownKnob Tryz.prog.godebug = none := by kernel_rfl
theorem walk (a : Option Addr) (len cap : Nat) (z : List Op12) (w : World) (h : Ops12 w a len cap z) :
    Calls Tryz.prog 3 #[.slice a len cap] w fun e w' => e = .returned (.bool true) ∧ Below w.heap.size w w' := by
  have hlz := h.1
  have hlm := h.2.1
  have HZ := Lib.hid h
  clear h
  go_enter Tryz.func3, Tryz.ntmps3
  go_wp2_with fail
  refine (hNew w).mono ?_
  rintro e w1 ⟨x, m, rfl, x1, hx, b1, f1⟩
  have O1 : Hid (HOwn w.heap.size w w1 x m noSpc) := Lib.hid (HOwn.new (Below.refl _ _) (Nat.le_refl _) x1 b1 hx f1)
  clear x1 b1 f1 hx
  go_wp2_with fail
  go_loopw [4] (fun vi wr => ∃ (j : Nat) (m' : Mem) (P : Spc), vi = .int .i64 (j : Int) ∧ j ≤ len ∧ j ≤ 50 ∧ Hid (HOwn w.heap.size w wr x m' P) ∧ Hid (Few (2 * j) P) ∧ Hid (AllMade P)) (fun vi _ => len - (intOf vi).toNat)
  case atStart => exact ⟨0, m, noSpc, rfl, Nat.zero_le _, Nat.zero_le _, O1, Lib.hid ⟨Nat.zero_le _, Nat.zero_le _, fun k hk => absurd hk (by simp [Spc.has, noSpc, keysL])⟩, Lib.hid .none⟩
  case round =>
    obtain ⟨j, m', P, rfl, hj, hj50, HO, HF, HM⟩ := hrel
    clear O1
    by_cases hjn : j < len
    · have hjz : (j : Int) < (len : Int) := by omega
      have hj0 : (0 : Int) ≤ (j : Int) := by omega
      by_cases hjf : j < 50
      · have hjf' : (j : Int) < 50 := by omega
        have HZ1 := Lib.hid (HZ.out.keep HO.out.bel)
        obtain ⟨pb, po, a', n', c', e1, hpb, hq⟩ := HZ1.out.at_ j hjn
        subst e1
        have HQ := Lib.hid hq
        clear hq HZ1
        generalize opA z j = q at *
        have HL := Lib.hid HQ.out.2.1
        have HV := Lib.hid HQ.out.2.2.2
        obtain ⟨x0, x1, x2, x3, x4, x5, x6, x7, x8, x9, x10, x11, x12, x13⟩ := HQ.out.all
        go_wp2_with fail
        refine (light12_any q a' n' c' wr HL.out).mono ?_
        rintro e w2 ⟨r, rfl, b2⟩
        have O2 := Lib.hid (HO.out.keep b2)
        have L2 := Lib.hid (HL.out.keep b2)
        have Q2 := Lib.hid (HQ.out.keep hpb b2)
        clear HO HL HQ x0 x1 x2 x3 x4 x5 x6 x7 x8 x9 x10 x11 x12 x13
        obtain ⟨x0, x1, x2, x3, x4, x5, x6, x7, x8, x9, x10, x11, x12, x13⟩ := Q2.out.all
        clear b2
        cases r with
        | true =>
          by_cases k0 : q.k < 0
          · skip
            have F3 : Hid (Few (2 * (j + 1)) P) := Lib.hid (HF.out.mono (by omega))
            clear x1 x2 x3 x4 x5 x6 x7 x8 x9 x10 x11 x12 x13
            go_wp2
            go_roundw
            case rel => exact ⟨j + 1, m', P, by go_num, by omega, by omega, O2, F3, HM⟩
            case measure => simp [intOf]; omega
          · by_cases k7 : 7 < q.k
            · skip
              have F3 : Hid (Few (2 * (j + 1)) P) := Lib.hid (HF.out.mono (by omega))
              clear x1 x2 x3 x4 x5 x6 x7 x8 x9 x10 x11 x12 x13
              go_wp2
              go_roundw
              case rel => exact ⟨j + 1, m', P, by go_num, by omega, by omega, O2, F3, HM⟩
              case measure => simp [intOf]; omega
            · go_wp2_with fail
              refine (do12_any O2.out (HF.out.mono (by omega)) q a' n' c' L2.out HV.out).mono ?_
              rintro e w3 ⟨rfl, m3, o3, t3⟩
              have I3 := stepP_inv O2.out.sp.ok o3.sp.ok HF.out HM.out HV.out (by omega)
              have F3 : Hid (Few (2 * (j + 1)) (stepP P q)) := Lib.hid (I3.1.mono (by omega))
              have M3 := Lib.hid I3.2
              have O3 := Lib.hid o3
              clear o3 t3 I3 O2 x0 x1 x2 x3 x4 x5 x6 x7 x8 x9 x10 x11 x12 x13 k0 k7
              generalize stepP P q = P3 at *
              have F9 : Hid (Few 900 P3) := Lib.hid (F3.out.mono (by omega))
              go_wp2_with fail
              refine (hRules w3 x m3 P3 O3.out.sp (Nat.le_trans F9.out.g (by omega))).mono ?_
              rintro e w4 ⟨v, rfl, rr, b4⟩
              obtain ⟨a5, c5, e5, hr5, _⟩ := rr.shape
              subst e5
              have O4 := Lib.hid (O3.out.keep b4)
              have R4 := Lib.hid hr5
              clear O3 rr hr5 b4
              obtain ⟨n5, hn5⟩ : ∃ n5, P3.G.length = n5 := ⟨_, rfl⟩
              have HN5 := Lib.hid hn5
              have hg5 := F9.out.g
              rw [hn5] at R4 hg5 ⊢
              clear hn5
              go_wp2
              go_loopw [6] (fun vk wk => ∃ t : Nat, t ≤ n5 ∧ vk = .int .i64 (t : Int) ∧ Hid (Below w4.heap.size w4 wk)) (fun vk _ => n5 - (intOf vk).toNat)
              case atStart => exact ⟨0, Nat.zero_le _, rfl, Lib.hid (Below.refl _ _)⟩
              case round =>
                obtain ⟨t, ht, rfl, BK⟩ := hrel
                by_cases htn : t < n5
                · have htz : (t : Int) < (n5 : Int) := by omega
                  have ht0 : (0 : Int) ≤ (t : Int) := by omega
                  obtain ⟨b, off, rfl, hb, u0, u1, u2, u3, u4⟩ := (R4.out.keep BK.out).at_ t htn
                  have HMem : Hid (uA P3.G t ∈ P3.G) := Lib.hid (uA_mem (by rw [HN5.out]; exact htn))
                  obtain ⟨r, hr⟩ : ∃ r, uA P3.G t = r := ⟨_, rfl⟩
                  rw [hr] at u0 u1 u2 u3 u4 HMem
                  clear hr
                  have O5 := Lib.hid (O4.out.keep BK.out)
                  have HC := Lib.hid (made12_any _ x m3 P3 r O5.out.sp F9.out HMem.out (M3.out r HMem.out))
                  unfold ruV at HC
                  go_wp2_with fail
                  refine HC.out.mono ?_
                  rintro e w6 ⟨rfl, b6⟩
                  have BK6 := Lib.hid (BK.out.trans (b6.mono BK.out.size))
                  clear u0 u1 u2 u3 u4 b6 BK O5 HC hb
                  go_wp2
                  go_roundw
                  case rel => exact ⟨t + 1, by omega, by go_num, BK6⟩
                  case measure => simp [intOf]; omega
                · have htz : ¬ (t : Int) < (n5 : Int) := by omega
                  have O5 := Lib.hid (O4.out.keep BK.out)
                  clear BK O4 R4
                  go_wp2
                  go_roundw
                  case rel => exact ⟨j + 1, m3, P3, by go_num, by omega, by omega, O5, F3, M3⟩
                  case measure => simp [intOf]; omega
        | false =>
          skip
          have F3 : Hid (Few (2 * (j + 1)) P) := Lib.hid (HF.out.mono (by omega))
          clear x0 x1 x2 x3 x4 x5 x6 x7 x8 x9 x10 x11 x12 x13
          go_wp2
          go_roundw
          case rel => exact ⟨j + 1, m', P, by go_num, by omega, by omega, O2, F3, HM⟩
          case measure => simp [intOf]; omega
      · have hjf' : ¬ (j : Int) < 50 := by omega
        go_wp2_with fail
        refine (known12_any _).mono ?_
        rintro e W3 ⟨rfl, b3⟩
        have XE := Lib.hid (HO.out.keep b3).bel
        go_wp2
        go_ret
        exact ⟨rfl, XE.out⟩
    · have hjz : ¬ (j : Int) < (len : Int) := by omega
      go_wp2_with fail
      refine (known12_any _).mono ?_
      rintro e W3 ⟨rfl, b3⟩
      have XE := Lib.hid (HO.out.keep b3).bel
      go_wp2
      go_ret
      exact ⟨rfl, XE.out⟩
theorem lifted (os : Os) (started : os.Started) (H : Type) (enc : TypeId × Value → H) :
    ReturnsInHanded {} Tryz.checked os 3 .any (Rows.spaceMakesSpec.pre6 enc Tryz.prog Tryz.f3 Rows.spaceMakesRow.domain false) (Rows.spaceMakesSpec.post enc Tryz.prog Tryz.f3 false true false false) := by
  refine returnsInHanded_of_change (C := Tryz.checked) own started (by kernel_rfl) Tryz.func3
    (ChangeSpec.witness6 (enc := enc) (C := Tryz.checked) false ⟨#[], #[.slice none 0 0], []⟩ 8 (by kernel_rfl) (by kernel_rfl) (by kernel_rfl) (by kernel_rfl)) ?_
  intro W base args ds gs before hval0 hW hcnd _
  have hval : ∀ (j : Nat) t v, Tryz.f3.params[j]? = some t → args[j]? = some v → Value.okWide Tryz.prog W .any base t v := hval0
  have hW' := hW
  obtain ⟨p, q, hA0, hV, rfl, hfz, hnd⟩ := hW
  have hA : DataW.TrodAll enc Tryz.prog W 0 (fun _ => true) true Tryz.f3.params.toList args.toList ds p := hA0
  rw [Tryz.params3] at hA hval
  obtain ⟨v0, vs0, d0, ds0, p0, q0, hargs, rfl, rfl, h0, r0⟩ := trodAll_cons hA
  obtain ⟨rfl, rfl, rfl⟩ := trodAll_nil r0
  obtain rfl : args = #[v0] := by cases args; simp_all
  obtain ⟨rfl, rfl⟩ := trodVars_none hV
  obtain ⟨a0, len0, cap0, rfl⟩ := okWide_slice Tryz.underlying22 (hval 0 22 v0 rfl rfl)
  have k0 := h0
  have lt0 : ∀ x ∈ p0, x.block < W.heap.size := by obtain ⟨m, hm⟩ := k0; exact DataW.trod_lt m _ _ _ hm
  obtain ⟨z0, w0⟩ := open_ops12 h0
  clear hA0 hval0
  refine (walk a0 len0 cap0 z0 W w0).mono fun e W' ⟨he, bel⟩ => ?_
  subst he
  exact ⟨_, rfl, _, _, _, [], _, [], hW', trodAll_mk1 (shut_bool Tryz.underlying4 _), (trodAll_cons_mk (Below.trod laidOut (by kernel_rfl) (of_decide_eq_true (by kernel_rfl)) k0 bel lt0) trodAll_mk0), rfl, bel.frame _, fun h => by cases h⟩
theorem closed : joinedFacts Tryz.pinned.checked.prog 3 Tryz.f3 Rows.spaceMakesSpec Rows.spaceMakesRow = true := by
  unfold joinedFacts
  repeat' (with_reducible refine Bool.and_eq_true_iff.2 ⟨?_, ?_⟩)
  all_goals as_aux_lemma => kernel_rfl
theorem over : Rows.spaceMakesRow.holds Tryz.pinned (OpenSpec.ofChange Rows.spaceMakesSpec) :=
  OpenClaim.holds_of_wide 3 Tryz.f3 rfl rfl rfl rfl rfl rfl rfl ⟨rfl, rfl, rfl, rfl, rfl⟩ rfl rfl rfl rfl rfl (by kernel_rfl) Tryz.func3 closed
    (of_decide_eq_true (by kernel_rfl)) (by unfold Func.isWrapper; first | (rw [if_pos (by decide +kernel)]; kernel_rfl) | (rw [if_neg (by decide +kernel)]; exact ⟨rfl, rfl⟩))
    (fun os started H enc _ => lifted os started H enc)
theorem proved : Rows.SpaceMakesSaid := over
end spaceMakes
theorem spaceMakes_holds : Rows.SpaceMakesSaid := spaceMakes.proved
#print axioms spaceMakes_holds
end Go.Proofs.YtmifpfojhlmbkaaGreat
