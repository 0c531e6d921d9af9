/-
  Contracts of the inner walk of package delta over samples: toward, along.
-/
import Derived.Test.YtoanifeffegkiaaDCode
import Derived.Deep.RegionHeld3
import Derived.IntWalk
import Derived.StillTailTactics
namespace Go.Proofs.Ytoanifeffegkiaa
open Go.RowKit
set_option linter.unusedVariables false
set_option linter.unusedSimpArgs false

/-- A walk lies in block b: it stands at the sample (t, v), behind the step. -/
def WkAt (w : World) (b : Nat) (x : Int × Int) (step : Int) : Prop :=
  w.heap[b]? = some (.cells #[.int .i64 x.1, .int .i64 x.2, .int .i64 step] 70 (0, 0))

/-- A contract that leaves the world alone, inside a region that draws. -/
theorem quietL {f : FuncId} {args : Array Value} {w : World} {k : Nat} {v : Value} (h : Calls Try.prog f args (w.drewN k) fun e w' => e = .returned v ∧ w.drewN k = w') :
    Calls Try.prog f args (w.drewN k) fun e w' => e = .returned v ∧ ∃ m, w' = w.drewN m := h.mono fun _ _ p => ⟨p.1, k, p.2.symm⟩
theorem zigW_any (n : Int) (w : World) :
    Calls Try.prog 29 #[.int .i64 (IntKind.i64.wrap n)] w fun e w' => e = .returned (.int .u64 (zigZ (wrap64 n) : Int)) ∧ w = w' := by
  rw [IntWalk.i64_left]
  exact zigZ_any _ _ (wrap64_in64 _)

def TowardP (b : Nat) (x y : Int × Int) (step : Int) (w : World) (e : Ending) (w' : World) : Prop :=
  e = .returned (.tuple #[.int .u64 (zigZ (wrap64 (wrap64 (y.1 - x.1) - step)) : Int), .int .u64 (zigZ (wrap64 (y.2 - x.2)) : Int)]) ∧ WkAt w' b y (wrap64 (y.1 - x.1)) ∧ w.grownBy w' (some b)

set_option maxHeartbeats 800000 in
theorem toward_any (b : Nat) (x y : Int × Int) (step : Int) (w : World) (hk : WkAt w b x step) :
    Calls Try.prog 35 #[.pointer (some ⟨b, 0, none⟩), .agg #[.int .i64 y.1, .int .i64 y.2]] w (TowardP b x y step w) := by
  have hlt := heap_lt hk
  have HK := Lib.hid hk
  have k0 : w.cell? ⟨b, 0, none⟩ = some (.int .i64 x.1) := by rw [cell_of hk]; rfl
  have k1 : w.cell? ⟨b, 1, none⟩ = some (.int .i64 x.2) := by rw [cell_of hk]; rfl
  have k2 : w.cell? ⟨b, 2, none⟩ = some (.int .i64 step) := by rw [cell_of hk]; rfl
  have f0 : w.frozen? ⟨b, 0, none⟩ = false := frozen_of hk
  have f1 : w.frozen? ⟨b, 1, none⟩ = false := frozen_of hk
  have f2 : w.frozen? ⟨b, 2, none⟩ = false := frozen_of hk
  clear hk
  obtain ⟨t, v⟩ := x
  obtain ⟨T, V⟩ := y
  simp only at *
  go_enter Try.func35, Try.ntmps35
  go_wp2
  have g0 := World.grownBy_alloc w (.cells #[.int .i64 T, .int .i64 V] 59) (some b)
  have hn := heap_new w (.cells #[.int .i64 T, .int .i64 V] 59)
  have hk := HK.out
  rw [WkAt, ← Below.heap_alloc w (.cells #[.int .i64 T, .int .i64 V] 59) b hlt] at hk
  clear HK k0 k1 k2 f0 f1 f2
  generalize w.alloc (.cells #[.int .i64 T, .int .i64 V] 59) = W0 at *
  have hne : b ≠ w.heap.size := by omega
  generalize w.heap.size = c at *
  have HK := Lib.hid hk
  have HN := Lib.hid hn
  have k0 : W0.cell? ⟨b, 0, none⟩ = some (.int .i64 t) := by rw [cell_of hk]; rfl
  have k1 : W0.cell? ⟨b, 1, none⟩ = some (.int .i64 v) := by rw [cell_of hk]; rfl
  have k2 : W0.cell? ⟨b, 2, none⟩ = some (.int .i64 step) := by rw [cell_of hk]; rfl
  have c0 : W0.cell? ⟨c, 0, none⟩ = some (.int .i64 T) := by rw [cell_of hn]; rfl
  have c1 : W0.cell? ⟨c, 1, none⟩ = some (.int .i64 V) := by rw [cell_of hn]; rfl
  clear hk hn
  go_quiet (fail)
  have d1 : Drew W0 (W0.drewN nq) := ⟨nq, rfl⟩
  have k0 : (W0.drewN nq).cell? ⟨b, 0, none⟩ = some (.int .i64 t) := k0
  have k1 : (W0.drewN nq).cell? ⟨b, 1, none⟩ = some (.int .i64 v) := k1
  have k2 : (W0.drewN nq).cell? ⟨b, 2, none⟩ = some (.int .i64 step) := k2
  have c0 : (W0.drewN nq).cell? ⟨c, 0, none⟩ = some (.int .i64 T) := c0
  have c1 : (W0.drewN nq).cell? ⟨c, 1, none⟩ = some (.int .i64 V) := c1
  have g1 := gb_trans g0 (d1.gb (some b))
  have HK : Hid ((W0.drewN nq).heap[b]? = some (.cells #[.int .i64 t, .int .i64 v, .int .i64 step] 70 (0, 0))) := HK
  have f0 := frozen_of (o := 0) HK.out
  have f1 := frozen_of (o := 1) HK.out
  have f2 := frozen_of (o := 2) HK.out
  clear g0 d1 HN
  generalize W0.drewN nq = W1 at *
  go_wp2
  go_quiet ((go_at_call 29; with_reducible exact quietL (zigW_any _ _)))
  go_wp2
  go_ret2
  refine ⟨rfl, ?_, ?_⟩
  · refine (heap_set (heap_set (heap_set (c := #[.int .i64 t, .int .i64 v, .int .i64 step]) HK.out))).trans ?_
    rfl
  · exact gb_set (gb_set (gb_set (gb_trans g1 (Drew.gb (w := W1) ⟨nq, rfl⟩ (some b))) _ _) _ _) _ _

/-- A store into memory that was not there. -/
theorem gb_new {a w : World} {b : Option Nat} {c : Nat} (h : a.grownBy w b) (hc : a.heap.size ≤ c) (o : Nat) (v : Value) : a.grownBy (w.setCell ⟨c, o, none⟩ v) b :=
  ⟨h.os, h.tape, h.output, by simpa [World.setCell] using h.size, fun k hk hr => (Below.heap_setCell _ _ _ _ (by intro e; simp at e; omega)).trans (h.block k hk hr)⟩
theorem zagS (u : Nat) (w : World) (h : u < 18446744073709551616) :
    Calls Try.prog 58 #[.int .u64 (u : Int)] w fun e w' => e = .returned (.int .i64 (zagZ u)) ∧ w' = w := (zagZ_any u w h).mono fun _ _ p => ⟨p.1, p.2.symm⟩

def AlongP (b : Nat) (x : Int × Int) (step : Int) (u q : Nat) (w : World) (e : Ending) (w' : World) : Prop :=
  e = .returned (.agg #[.int .i64 (nextS x step u q).1, .int .i64 (nextS x step u q).2]) ∧ WkAt w' b (nextS x step u q) (wrap64 (step + zagZ u)) ∧ w.grownBy w' (some b)

set_option maxHeartbeats 800000 in
theorem along_any (b : Nat) (x : Int × Int) (step : Int) (u q : Nat) (w : World) (hk : WkAt w b x step) (hu : u < 18446744073709551616) (hq : q < 18446744073709551616) :
    Calls Try.prog 52 #[.pointer (some ⟨b, 0, none⟩), .int .u64 (u : Int), .int .u64 (q : Int)] w (AlongP b x step u q w) := by
  have hlt := heap_lt hk
  have HK := Lib.hid hk
  clear hk
  obtain ⟨t, v⟩ := x
  go_enter Try.func52, Try.ntmps52
  go_wp2
  have g0 := World.grownBy_alloc w (.cells #[.int .i64 0, .int .i64 0] 59) (some b)
  have hn := heap_new w (.cells #[.int .i64 0, .int .i64 0] 59)
  have hk := HK.out
  rw [WkAt, ← Below.heap_alloc w (.cells #[.int .i64 0, .int .i64 0] 59) b hlt] at hk
  clear HK
  generalize w.alloc (.cells #[.int .i64 0, .int .i64 0] 59) = W0 at *
  have hne : b ≠ w.heap.size := by omega
  generalize hc : w.heap.size = c at *
  have HC := Lib.hid hc
  clear hc
  simp only at hk
  refine wp_region_still_tail 9 (by kernel_rfl) (by kernel_rfl) ?_
  simp only [List.take_succ_cons, List.take_zero, List.drop_succ_cons, List.drop_zero]
  change wpStill _ _ W0.drew (fun a' => wpList _ _ _ _ a' W0.drew) _ _
  have g1 := gb_drew g0
  rw [← heap_drew] at hk hn
  clear g0
  generalize W0.drew = W1 at *
  have k2 : W1.cell? ⟨b, 2, none⟩ = some (.int .i64 step) := by rw [cell_of hk]; rfl
  have f2 := frozen_of (o := 2) hk
  have HK := Lib.hid hk
  have HN := Lib.hid hn
  clear hk hn
  repeat still_step
  still_call (zagS u _ hu)
  repeat still_step
  refine wpStill_nil ?_
  rw [IntWalk.i64_left]
  go_wp2
  have g2 := gb_set g1 2 (.int .i64 (wrap64 (step + zagZ u)))
  have hk2 := heap_set (o := 2) (v := .int .i64 (wrap64 (step + zagZ u))) HK.out
  have hn2 := (heap_set_ne (w := W1) (o := 2) (v := .int .i64 (wrap64 (step + zagZ u))) (Ne.symm hne)).trans HN.out
  clear k2 f2 HK HN g1
  generalize W1.setCell ⟨b, 2, none⟩ (.int .i64 (wrap64 (step + zagZ u))) = W2 at *
  refine wp_region_still_tail 13 (by kernel_rfl) (by kernel_rfl) ?_
  simp only [List.take_succ_cons, List.take_zero, List.drop_succ_cons, List.drop_zero]
  change wpStill _ _ W2.drew (fun a' => wpList _ _ _ _ a' W2.drew) _ _
  have g3 := gb_drew g2
  rw [← heap_drew] at hk2 hn2
  clear g2
  generalize W2.drew = W3 at *
  generalize hst : wrap64 (step + zagZ u) = st at *
  have HST := Lib.hid hst
  clear hst
  replace hk2 : W3.heap[b]? = some (.cells #[.int .i64 t, .int .i64 v, .int .i64 st] 70 (0, 0)) := hk2
  have k0 : W3.cell? ⟨b, 0, none⟩ = some (.int .i64 t) := by rw [cell_of hk2]; rfl
  have k2 : W3.cell? ⟨b, 2, none⟩ = some (.int .i64 st) := by rw [cell_of hk2]; rfl
  have f0 := frozen_of (o := 0) hk2
  have HK := Lib.hid hk2
  have HN := Lib.hid hn2
  clear hk2 hn2
  repeat still_step
  refine wpStill_nil ?_
  rw [IntWalk.i64_left]
  go_wp2
  have g4 := gb_set g3 0 (.int .i64 (wrap64 (t + st)))
  have hk4 := heap_set (o := 0) (v := .int .i64 (wrap64 (t + st))) HK.out
  have hn4 := (heap_set_ne (w := W3) (o := 0) (v := .int .i64 (wrap64 (t + st))) (Ne.symm hne)).trans HN.out
  clear k0 k2 f0 HK HN g3
  generalize W3.setCell ⟨b, 0, none⟩ (.int .i64 (wrap64 (t + st))) = W4 at *
  refine wp_region_still_tail 11 (by kernel_rfl) (by kernel_rfl) ?_
  simp only [List.take_succ_cons, List.take_zero, List.drop_succ_cons, List.drop_zero]
  change wpStill _ _ W4.drew (fun a' => wpList _ _ _ _ a' W4.drew) _ _
  have g5 := gb_drew g4
  rw [← heap_drew] at hk4 hn4
  clear g4
  generalize W4.drew = W5 at *
  generalize hnt : wrap64 (t + st) = nt at *
  have HNT := Lib.hid hnt
  clear hnt
  replace hk4 : W5.heap[b]? = some (.cells #[.int .i64 nt, .int .i64 v, .int .i64 st] 70 (0, 0)) := hk4
  have k1 : W5.cell? ⟨b, 1, none⟩ = some (.int .i64 v) := by rw [cell_of hk4]; rfl
  have f1 := frozen_of (o := 1) hk4
  have HK := Lib.hid hk4
  have HN := Lib.hid hn4
  clear hk4 hn4
  repeat still_step
  still_call (zagS q _ hq)
  repeat still_step
  refine wpStill_nil ?_
  rw [IntWalk.i64_left]
  have g6 := gb_set g5 1 (.int .i64 (wrap64 (v + zagZ q)))
  have hk6 := heap_set (o := 1) (v := .int .i64 (wrap64 (v + zagZ q))) HK.out
  have hn6 := (heap_set_ne (w := W5) (o := 1) (v := .int .i64 (wrap64 (v + zagZ q))) (Ne.symm hne)).trans HN.out
  generalize hnv : wrap64 (v + zagZ q) = nv at *
  have HNV := Lib.hid hnv
  clear hnv g5 HK HN
  replace hk6 : (W5.setCell ⟨b, 1, none⟩ (.int .i64 nv)).heap[b]? = some (.cells #[.int .i64 nt, .int .i64 nv, .int .i64 st] 70 (0, 0)) := hk6
  have HK := Lib.hid hk6
  have HN := Lib.hid hn6
  have m0 : (W5.setCell ⟨b, 1, none⟩ (.int .i64 nv)).cell? ⟨b, 0, none⟩ = some (.int .i64 nt) := by rw [cell_of hk6]; rfl
  have m1 : (W5.setCell ⟨b, 1, none⟩ (.int .i64 nv)).cell? ⟨b, 1, none⟩ = some (.int .i64 nv) := by rw [cell_of hk6]; rfl
  have n0 : (W5.setCell ⟨b, 1, none⟩ (.int .i64 nv)).cell? ⟨c, 0, none⟩ = some (.int .i64 0) := by rw [cell_of hn6]; rfl
  have n1 : (W5.setCell ⟨b, 1, none⟩ (.int .i64 nv)).cell? ⟨c, 1, none⟩ = some (.int .i64 0) := by rw [cell_of hn6]; rfl
  have z0 := frozen_of (o := 0) hn6
  have z1 := frozen_of (o := 1) hn6
  clear hk6 hn6
  go_wp2
  have r0 := heap_set (o := 0) (v := .int .i64 nt) HN.out
  have r1 := heap_set (o := 1) (v := .int .i64 nv) r0
  have j0 := (cell_of (o := 0) r1).trans (by rfl : _ = some (Value.int .i64 nt))
  have j1 := (cell_of (o := 1) r1).trans (by rfl : _ = some (Value.int .i64 nv))
  clear r0 r1
  refine bodyPost_ret (v := .agg #[.int .i64 nt, .int .i64 nv]) (by simp [results, Try.results52, go_sem, j0, j1]) rfl ⟨?_, ?_, ?_⟩
  · rw [← HNT.out, ← HNV.out, ← HST.out]; rfl
  · unfold WkAt
    rw [heap_set_ne hne, heap_set_ne hne, HK.out, ← HNT.out, ← HNV.out, ← HST.out]; rfl
  · exact gb_new (gb_new g6 (by rw [HC.out]; exact Nat.le_refl _) _ _) (by rw [HC.out]; exact Nat.le_refl _) _ _

end Go.Proofs.Ytoanifeffegkiaa
