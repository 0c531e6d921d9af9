/-
  Contracts of series.begun and series.window: how many chunks begin at a time of at most t; where the chunks stand that can have samples of some times.
-/
import Derived.Test.YtpbhdlhbcfkhfaaGreatSMem
import Derived.Test.YtpbhdlhbcfkhfaaGreatCFind
import Derived.Shelf.Abstract
namespace Go.Proofs.YtpbhdlhbcfkhfaaGreat
open Go.RowKit
set_option linter.unusedVariables false
set_option linter.unusedSimpArgs false

set_option maxHeartbeats 400000 in
theorem begun_test (a : Option Addr) (len cap : Nat) (L : List (Nat × List (Int × Int))) (sz t : Int) (i cb ct : Nat) (w : World) (hp : Ptrs w a len cap (bl L)) (hc : Chs w sz L) (hs : 1 ≤ sz) (hn : (zs L).flatten.length ≤ 1048576) (hi : i < len)
    (cl : w.cell? ⟨cb, 0, none⟩ = some (.slice a len cap)) (cT : w.cell? ⟨ct, 0, none⟩ = some (.int .i64 t)) :
    Calls Tryz.prog 70 #[.int .i64 (i : Int), .pointer (some ⟨cb, 0, none⟩), .pointer (some ⟨ct, 0, none⟩)] w fun e w' => e = .returned (.bool (decide (t < tOf ((zs L).getD i []) 0))) ∧ Below w.heap.size w w' := by
  obtain ⟨p, o, rfl, hpb, x0⟩ := hp.at_ i hi
  unfold ptr at x0
  have hi0 : (0 : Int) ≤ (i : Int) := by omega
  have hi1 : (i : Int) < (len : Int) := by omega
  have hl := hp.2.2.1
  have hck := hc.get (i := i) (by rw [← bl_len, hp.1]; exact hi)
  have hzl : ((zs L).getD i []).length ≤ 1048576 := Nat.le_trans (flat_len_get _ _) hn
  generalize (bl L).getD i 0 = q at *
  generalize (zs L).getD i [] = z at *
  have htl := World.block_lt_of_cell? w _ cT
  have HK := Lib.hid hck
  clear hp hc hck
  go_enter Tryz.func70, Tryz.ntmps70
  go_wp2_with fail
  refine (first_ok q sz z _ HK.out hs hzl).mono ?_
  rintro e W1 ⟨rfl, b1⟩
  have cT1 := (b1.cell htl).trans cT
  generalize decide (0 < z.length) = r0
  obtain ⟨t0, ht0⟩ : ∃ t0, tOf z 0 = t0 := ⟨_, rfl⟩
  rw [ht0]
  have HT0 := Lib.hid ht0
  clear ht0
  generalize vOf z 0 = v0 at *
  have cT2 : (W1.alloc (.cells #[.int .i64 t0, .int .i64 v0] 33)).cell? ⟨ct, 0, none⟩ = some (.int .i64 t) := by rw [((Below.refl W1.heap.size W1).alloc (Nat.le_refl _) _).cell (Nat.lt_of_lt_of_le htl b1.size)]; exact cT1
  have B2 := b1.alloc b1.size (.cells #[.int .i64 t0, .int .i64 v0] 33)
  clear cl cT x0 cT1 b1
  go_wp2
  go_ret
  exact ⟨ret_bool (by rw [HT0.out]), B2⟩

set_option maxHeartbeats 400000 in
theorem begun_any (a : Option Addr) (len cap : Nat) (L : List (Nat × List (Int × Int))) (sz t : Int) (w : World) (hp : Ptrs w a len cap (bl L)) (hc : Chs w sz L) (hs : 1 ≤ sz) (hn : (zs L).flatten.length ≤ 1048576) (hr : Rising (zs L).flatten) (he : ∀ z ∈ zs L, z ≠ []) (hlen : len ≤ 1048576) :
    Calls Tryz.prog 50 #[.slice a len cap, .int .i64 t] w (SearchP (begL (zs L) t) w) := by
  have HL := Lib.hid (show (zs L).length = len from by rw [zs_len, ← bl_len, hp.1])
  have hle : begL (zs L) t ≤ len := by rw [← HL.out]; exact begL_le _ t
  have HI := Lib.hid (begL_iff hr he t)
  have hp3 := (hp.keepN (World.grownBy_alloc w (.cells #[.slice a len cap] 50) none)).keepN (World.grownBy_alloc _ (.cells #[.int .i64 t] 3) none)
  have hc3 := (hc.keepN (World.grownBy_alloc w (.cells #[.slice a len cap] 50) none)).keepN (World.grownBy_alloc _ (.cells #[.int .i64 t] 3) none)
  have B1 := ((Below.refl w.heap.size w).alloc (Nat.le_refl _) (.cells #[.slice a len cap] 50)).alloc (by simp) (.cells #[.int .i64 t] 3)
  have cl : ((w.alloc (.cells #[.slice a len cap] 50)).alloc (.cells #[.int .i64 t] 3)).cell? ⟨w.heap.size, 0, none⟩ = some (.slice a len cap) := by rw [cell_of (heap_old (heap_new w _))]; rfl
  have ct : ((w.alloc (.cells #[.slice a len cap] 50)).alloc (.cells #[.int .i64 t] 3)).cell? ⟨w.heap.size + 1, 0, none⟩ = some (.int .i64 t) := by
    have h := heap_new (w.alloc (.cells #[.slice a len cap] 50)) (.cells #[.int .i64 t] 3)
    rw [show (w.alloc (.cells #[.slice a len cap] 50)).heap.size = w.heap.size + 1 from by simp] at h
    rw [cell_of h]; rfl
  have HSZ : w.heap.size + 1 < ((w.alloc (.cells #[.slice a len cap] 50)).alloc (.cells #[.int .i64 t] 3)).heap.size := by simp
  clear hp hc hr
  generalize hW : ((w.alloc (.cells #[.slice a len cap] 50)).alloc (.cells #[.int .i64 t] 3)) = W1 at *
  have HC := Lib.hid cl
  have HT := Lib.hid ct
  have HW := Lib.hid hW
  have HP := Lib.hid hp3
  have HK := Lib.hid hc3
  clear cl ct hW hp3 hc3
  go_enter Tryz.func50, Tryz.ntmps50
  go_wp2_with fail
  rw [HW.out]
  refine (search_any len (begL (zs L) t) 70 _ W1 (by omega) hle (enters_of Tryz.func70 (by kernel_rfl) rfl) ?_).mono ?_
  · intro i wr hi hb
    refine (begun_test a len cap L sz t i w.heap.size (w.heap.size + 1) wr (HP.out.keepB hb) (HK.out.keepB hb) hs hn hi (by rw [hb.cell (by simp; omega)]; exact HC.out) (by rw [hb.cell HSZ]; exact HT.out)).mono ?_
    rintro e w' ⟨rfl, b⟩
    refine ⟨ret_bool ?_, b⟩
    have := HI.out i (by rw [HL.out]; exact hi)
    apply decide_eq_decide.2
    omega
  · rintro e w' ⟨rfl, b⟩
    have B2 := B1.trans (b.mono (by omega))
    clear B1 b
    go_wp2
    go_ret
    exact ⟨rfl, B2⟩

theorem ret_two {a b c d : Int} (h : a = c) (k : b = d) : Ending.returned (.tuple #[.int .i64 a, .int .i64 b]) = .returned (.tuple #[.int .i64 c, .int .i64 d]) := by rw [h, k]
def WinP (x y : Nat) (w : World) (e : Ending) (w' : World) : Prop := e = .returned (.tuple #[.int .i64 (x : Int), .int .i64 (y : Int)]) ∧ Below w.heap.size w w'
set_option maxHeartbeats 400000 in
theorem window_any (a : Option Addr) (len cap : Nat) (L : List (Nat × List (Int × Int))) (sz f t : Int) (w : World) (hp : Ptrs w a len cap (bl L)) (hc : Chs w sz L) (hs : 1 ≤ sz) (hn : (zs L).flatten.length ≤ 1048576) (hr : Rising (zs L).flatten) (he : ∀ z ∈ zs L, z ≠ []) (hlen : len ≤ 1048576) :
    Calls Tryz.prog 29 #[.slice a len cap, .int .i64 f, .int .i64 t] w (WinP (winA (zs L) f t) (winB (zs L) f t) w) := by
  by_cases h : t < f
  · have hA : winA (zs L) f t = 0 := by unfold winA; rw [if_pos h]
    have hB : winB (zs L) f t = 0 := by unfold winB; rw [if_pos h]
    rw [hA, hB]
    clear hp hc
    go_enter Tryz.func29, Tryz.ntmps29
    go_wp2
    go_ret2
    exact ⟨rfl, Below.refl _ _⟩
  · have hA : winA (zs L) f t = begL (zs L) f - 1 := by unfold winA; rw [if_neg h]
    have hB : winB (zs L) f t = begL (zs L) t := by unfold winB; rw [if_neg h]
    have hle1 : begL (zs L) f ≤ 1048576 := by have := begL_le (zs L) f; rw [zs_len, ← bl_len, hp.1] at this; omega
    have hle2 : begL (zs L) t ≤ 1048576 := by have := begL_le (zs L) t; rw [zs_len, ← bl_len, hp.1] at this; omega
    rw [hA, hB]
    have HP := Lib.hid hp
    have HK := Lib.hid hc
    have HR := Lib.hid hr
    have HE := Lib.hid he
    clear hp hc hA hB hr he
    go_enter Tryz.func29, Tryz.ntmps29
    go_wp2_with fail
    refine (begun_any a len cap L sz f w HP.out HK.out hs hn HR.out HE.out hlen).mono ?_
    rintro e W1 ⟨rfl, b1⟩
    have HB1 := Lib.hid b1
    generalize hk1 : begL (zs L) f = k1 at *
    have hn1 : ((k1 : Int) - 1 ≤ 0) ∨ ¬ ((k1 : Int) - 1 ≤ 0) := by omega
    rcases hn1 with hn1 | hn1
    all_goals
      have hn2 : (0 ≤ (k1 : Int) - 1) ∨ ¬ (0 ≤ (k1 : Int) - 1) := by omega
      rcases hn2 with hn2 | hn2
    all_goals
      go_wp2_with fail
      refine (begun_any a len cap L sz t _ (HP.out.keepB HB1.out) (HK.out.keepB HB1.out) hs hn HR.out HE.out hlen).mono ?_
      rintro e W2 ⟨rfl, b2⟩
      have B2 := HB1.out.trans (b2.mono HB1.out.size)
      generalize begL (zs L) t = k2 at *
      clear b2 HB1
      go_wp2
      go_ret2
      exact ⟨ret_two (by omega) rfl, B2⟩

end Go.Proofs.YtpbhdlhbcfkhfaaGreat
