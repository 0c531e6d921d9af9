/-
  Contracts of chunk.before and chunk.upTo: how many samples of rising times have a time below t, or of at most t.
-/
import Derived.Test.YtpbhdlhbcfkhfaaGreatCMem
import Derived.Test.YtpbhdlhbcfkhfaaGreatSearch
import Derived.Shelf.Abstract
namespace Go.Proofs.YtpbhdlhbcfkhfaaGreat
open Go.RowKit
set_option linter.unusedVariables false
set_option linter.unusedSimpArgs false

theorem drew_below {w w' : World} (h : Drew w w') : Below w.heap.size w w' := gb_below_none (h.gb none)

set_option maxHeartbeats 400000 in
theorem before_test (a : Option Addr) (len cap : Nat) (z : List (Int × Int)) (t : Int) (i bl bt : Nat) (w : World) (hz : Lst w a len cap z) (hi : i < len)
    (cl : w.cell? ⟨bl, 0, none⟩ = some (.slice a len cap)) (ct : w.cell? ⟨bt, 0, none⟩ = some (.int .i64 t)) :
    Calls Tryz.prog 74 #[.int .i64 (i : Int), .pointer (some ⟨bl, 0, none⟩), .pointer (some ⟨bt, 0, none⟩)] w fun e w' => e = .returned (.bool (decide (t ≤ tOf z i))) ∧ Below w.heap.size w w' := by
  obtain ⟨p, o, rfl, hp, x0, x1⟩ := hz.1.at_ i hi
  have hi0 : (0 : Int) ≤ (i : Int) := by omega
  have hi1 : (i : Int) < (len : Int) := by omega
  have hl := hz.1.2.2.1
  clear hz
  go_enter Tryz.func74, Tryz.ntmps74
  go_wp2_with fail
  go_quiet (fail)
  go_wp2
  go_ret
  exact ⟨ret_bool rfl, drew_below ⟨nq, rfl⟩⟩

set_option maxHeartbeats 400000 in
theorem upTo_test (a : Option Addr) (len cap : Nat) (z : List (Int × Int)) (t : Int) (i bl bt : Nat) (w : World) (hz : Lst w a len cap z) (hi : i < len)
    (cl : w.cell? ⟨bl, 0, none⟩ = some (.slice a len cap)) (ct : w.cell? ⟨bt, 0, none⟩ = some (.int .i64 t)) :
    Calls Tryz.prog 75 #[.int .i64 (i : Int), .pointer (some ⟨bl, 0, none⟩), .pointer (some ⟨bt, 0, none⟩)] w fun e w' => e = .returned (.bool (decide (t < tOf z i))) ∧ Below w.heap.size w w' := by
  obtain ⟨p, o, rfl, hp, x0, x1⟩ := hz.1.at_ i hi
  have hi0 : (0 : Int) ≤ (i : Int) := by omega
  have hi1 : (i : Int) < (len : Int) := by omega
  have hl := hz.1.2.2.1
  clear hz
  go_enter Tryz.func75, Tryz.ntmps75
  go_wp2_with fail
  go_quiet (fail)
  go_wp2
  go_ret
  exact ⟨ret_bool rfl, drew_below ⟨nq, rfl⟩⟩

set_option maxHeartbeats 400000 in
theorem before_any (a : Option Addr) (len cap : Nat) (z : List (Int × Int)) (t : Int) (w : World) (hz : Lst w a len cap z) (hr : Rising z) (hl : len ≤ 1048576) :
    Calls Tryz.prog 56 #[.slice a len cap, .int .i64 t] w (SearchP (bef z t) w) := by
  have HL := Lib.hid hz.len
  have hle : bef z t ≤ len := by rw [← HL.out]; exact bef_le z t
  have HI := Lib.hid (bef_iff hr t)
  have hz2 := hz.keepN (World.grownBy_alloc w (.cells #[.slice a len cap] 53) none)
  have hz3 := hz2.keepN (World.grownBy_alloc _ (.cells #[.int .i64 t] 3) none)
  have B1 := ((Below.refl w.heap.size w).alloc (Nat.le_refl _) (.cells #[.slice a len cap] 53)).alloc (by simp) (.cells #[.int .i64 t] 3)
  have cl : ((w.alloc (.cells #[.slice a len cap] 53)).alloc (.cells #[.int .i64 t] 3)).cell? ⟨w.heap.size, 0, none⟩ = some (.slice a len cap) := by rw [cell_of (heap_old (heap_new w _))]; rfl
  have ct : ((w.alloc (.cells #[.slice a len cap] 53)).alloc (.cells #[.int .i64 t] 3)).cell? ⟨w.heap.size + 1, 0, none⟩ = some (.int .i64 t) := by
    have h := heap_new (w.alloc (.cells #[.slice a len cap] 53)) (.cells #[.int .i64 t] 3)
    rw [show (w.alloc (.cells #[.slice a len cap] 53)).heap.size = w.heap.size + 1 from by simp] at h
    rw [cell_of h]; rfl
  have HSZ : w.heap.size + 1 < ((w.alloc (.cells #[.slice a len cap] 53)).alloc (.cells #[.int .i64 t] 3)).heap.size := by simp
  clear hz hz2 hr
  generalize hW : ((w.alloc (.cells #[.slice a len cap] 53)).alloc (.cells #[.int .i64 t] 3)) = W1 at *
  have HC := Lib.hid cl
  have HT := Lib.hid ct
  have HW := Lib.hid hW
  have HZ := Lib.hid hz3
  clear cl ct hW hz3
  go_enter Tryz.func56, Tryz.ntmps56
  go_wp2_with fail
  rw [HW.out]
  refine (search_any len (bef z t) 74 _ W1 (by omega) hle (enters_of Tryz.func74 (by kernel_rfl) rfl) ?_).mono ?_
  · intro i wr hi hb
    refine (before_test a len cap z t i w.heap.size (w.heap.size + 1) wr (HZ.out.keepB hb) hi (by rw [hb.cell (by simp; omega)]; exact HC.out) (by rw [hb.cell HSZ]; exact HT.out)).mono ?_
    rintro e w' ⟨rfl, b⟩
    refine ⟨ret_bool ?_, b⟩
    have := HI.out i (by rw [HL.out]; exact hi)
    apply decide_eq_decide.2
    omega
  · rintro e w' ⟨rfl, b⟩
    have B2 := B1.trans (b.mono (by omega))
    clear B1 b
    go_wp2
    go_ret
    exact ⟨rfl, B2⟩

set_option maxHeartbeats 400000 in
theorem upTo_any (a : Option Addr) (len cap : Nat) (z : List (Int × Int)) (t : Int) (w : World) (hz : Lst w a len cap z) (hr : Rising z) (hl : len ≤ 1048576) :
    Calls Tryz.prog 57 #[.slice a len cap, .int .i64 t] w (SearchP (upt z t) w) := by
  have HL := Lib.hid hz.len
  have hle : upt z t ≤ len := by rw [← HL.out]; exact upt_le z t
  have HI := Lib.hid (upt_iff hr t)
  have hz2 := hz.keepN (World.grownBy_alloc w (.cells #[.slice a len cap] 53) none)
  have hz3 := hz2.keepN (World.grownBy_alloc _ (.cells #[.int .i64 t] 3) none)
  have B1 := ((Below.refl w.heap.size w).alloc (Nat.le_refl _) (.cells #[.slice a len cap] 53)).alloc (by simp) (.cells #[.int .i64 t] 3)
  have cl : ((w.alloc (.cells #[.slice a len cap] 53)).alloc (.cells #[.int .i64 t] 3)).cell? ⟨w.heap.size, 0, none⟩ = some (.slice a len cap) := by rw [cell_of (heap_old (heap_new w _))]; rfl
  have ct : ((w.alloc (.cells #[.slice a len cap] 53)).alloc (.cells #[.int .i64 t] 3)).cell? ⟨w.heap.size + 1, 0, none⟩ = some (.int .i64 t) := by
    have h := heap_new (w.alloc (.cells #[.slice a len cap] 53)) (.cells #[.int .i64 t] 3)
    rw [show (w.alloc (.cells #[.slice a len cap] 53)).heap.size = w.heap.size + 1 from by simp] at h
    rw [cell_of h]; rfl
  have HSZ : w.heap.size + 1 < ((w.alloc (.cells #[.slice a len cap] 53)).alloc (.cells #[.int .i64 t] 3)).heap.size := by simp
  clear hz hz2 hr
  generalize hW : ((w.alloc (.cells #[.slice a len cap] 53)).alloc (.cells #[.int .i64 t] 3)) = W1 at *
  have HC := Lib.hid cl
  have HT := Lib.hid ct
  have HW := Lib.hid hW
  have HZ := Lib.hid hz3
  clear cl ct hW hz3
  go_enter Tryz.func57, Tryz.ntmps57
  go_wp2_with fail
  rw [HW.out]
  refine (search_any len (upt z t) 75 _ W1 (by omega) hle (enters_of Tryz.func75 (by kernel_rfl) rfl) ?_).mono ?_
  · intro i wr hi hb
    refine (upTo_test a len cap z t i w.heap.size (w.heap.size + 1) wr (HZ.out.keepB hb) hi (by rw [hb.cell (by simp; omega)]; exact HC.out) (by rw [hb.cell HSZ]; exact HT.out)).mono ?_
    rintro e w' ⟨rfl, b⟩
    refine ⟨ret_bool ?_, b⟩
    have := HI.out i (by rw [HL.out]; exact hi)
    apply decide_eq_decide.2
    omega
  · rintro e w' ⟨rfl, b⟩
    have B2 := B1.trans (b.mono (by omega))
    clear B1 b
    go_wp2
    go_ret
    exact ⟨rfl, B2⟩

end Go.Proofs.YtpbhdlhbcfkhfaaGreat
