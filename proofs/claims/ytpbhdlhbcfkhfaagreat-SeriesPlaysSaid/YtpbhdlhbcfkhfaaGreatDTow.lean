/-
  Contract of the inner walk of package delta over samples: toward.
-/
import Derived.Test.YtpbhdlhbcfkhfaaGreatDSize
import Derived.Deep.RegionHeld3
import Derived.IntWalk
import Derived.StillTailTactics
namespace Go.Proofs.YtpbhdlhbcfkhfaaGreat
open Go.RowKit
set_option linter.unusedVariables false
set_option linter.unusedSimpArgs false

/-- A walk lies in block b: it stands at the sample (t, v), behind the step. -/
def WkAt (w : World) (b : Nat) (x : Int × Int) (step : Int) : Prop :=
  w.heap[b]? = some (.cells #[.int .i64 x.1, .int .i64 x.2, .int .i64 step] 114 (0, 0))

theorem zigW_any (n : Int) (w : World) :
    Calls Tryz.prog 98 #[.int .i64 (IntKind.i64.wrap n)] w fun e w' => e = .returned (.int .u64 (zigZ (wrap64 n) : Int)) ∧ w = w' := by
  rw [IntWalk.i64_left]
  exact zigZ_any _ _ (wrap64_in64 _)

def TowardP (b : Nat) (x y : Int × Int) (step : Int) (w : World) (e : Ending) (w' : World) : Prop :=
  e = .returned (.tuple #[.int .u64 (zigZ (wrap64 (wrap64 (y.1 - x.1) - step)) : Int), .int .u64 (zigZ (wrap64 (y.2 - x.2)) : Int)]) ∧ WkAt w' b y (wrap64 (y.1 - x.1)) ∧ w.grownBy w' (some b)

set_option maxHeartbeats 800000 in
theorem toward_any (b : Nat) (x y : Int × Int) (step : Int) (w : World) (hk : WkAt w b x step) :
    Calls Tryz.prog 90 #[.pointer (some ⟨b, 0, none⟩), .agg #[.int .i64 y.1, .int .i64 y.2]] w (TowardP b x y step w) := by
  have hlt := heap_lt hk
  have HK := Lib.hid hk
  have k0 : w.cell? ⟨b, 0, none⟩ = some (.int .i64 x.1) := by rw [cell_of hk]; rfl
  have k1 : w.cell? ⟨b, 1, none⟩ = some (.int .i64 x.2) := by rw [cell_of hk]; rfl
  have k2 : w.cell? ⟨b, 2, none⟩ = some (.int .i64 step) := by rw [cell_of hk]; rfl
  have f0 : w.frozen? ⟨b, 0, none⟩ = false := frozen_of hk
  have f1 : w.frozen? ⟨b, 1, none⟩ = false := frozen_of hk
  have f2 : w.frozen? ⟨b, 2, none⟩ = false := frozen_of hk
  clear hk
  obtain ⟨t, v⟩ := x
  obtain ⟨T, V⟩ := y
  simp only at *
  go_enter Tryz.func90, Tryz.ntmps90
  go_wp2
  have g0 := World.grownBy_alloc w (.cells #[.int .i64 T, .int .i64 V] 33) (some b)
  have hn := heap_new w (.cells #[.int .i64 T, .int .i64 V] 33)
  have hk := HK.out
  rw [WkAt, ← Below.heap_alloc w (.cells #[.int .i64 T, .int .i64 V] 33) b hlt] at hk
  clear HK k0 k1 k2 f0 f1 f2
  generalize w.alloc (.cells #[.int .i64 T, .int .i64 V] 33) = W0 at *
  have hne : b ≠ w.heap.size := by omega
  generalize w.heap.size = c at *
  have HK := Lib.hid hk
  have HN := Lib.hid hn
  have k0 : W0.cell? ⟨b, 0, none⟩ = some (.int .i64 t) := by rw [cell_of hk]; rfl
  have k1 : W0.cell? ⟨b, 1, none⟩ = some (.int .i64 v) := by rw [cell_of hk]; rfl
  have k2 : W0.cell? ⟨b, 2, none⟩ = some (.int .i64 step) := by rw [cell_of hk]; rfl
  have c0 : W0.cell? ⟨c, 0, none⟩ = some (.int .i64 T) := by rw [cell_of hn]; rfl
  have c1 : W0.cell? ⟨c, 1, none⟩ = some (.int .i64 V) := by rw [cell_of hn]; rfl
  clear hk hn
  go_quiet (fail)
  have d1 : Drew W0 (W0.drewN nq) := ⟨nq, rfl⟩
  have k0 : (W0.drewN nq).cell? ⟨b, 0, none⟩ = some (.int .i64 t) := k0
  have k1 : (W0.drewN nq).cell? ⟨b, 1, none⟩ = some (.int .i64 v) := k1
  have k2 : (W0.drewN nq).cell? ⟨b, 2, none⟩ = some (.int .i64 step) := k2
  have c0 : (W0.drewN nq).cell? ⟨c, 0, none⟩ = some (.int .i64 T) := c0
  have c1 : (W0.drewN nq).cell? ⟨c, 1, none⟩ = some (.int .i64 V) := c1
  have g1 := gb_trans g0 (d1.gb (some b))
  have HK : Hid ((W0.drewN nq).heap[b]? = some (.cells #[.int .i64 t, .int .i64 v, .int .i64 step] 114 (0, 0))) := HK
  have f0 := frozen_of (o := 0) HK.out
  have f1 := frozen_of (o := 1) HK.out
  have f2 := frozen_of (o := 2) HK.out
  clear g0 d1 HN
  generalize W0.drewN nq = W1 at *
  go_wp2
  go_quiet ((go_at_call 98; with_reducible exact quietL (zigW_any _ _)))
  go_wp2
  go_ret2
  refine ⟨rfl, ?_, ?_⟩
  · refine (heap_set (heap_set (heap_set (c := #[.int .i64 t, .int .i64 v, .int .i64 step]) HK.out))).trans ?_
    rfl
  · exact gb_set (gb_set (gb_set (gb_trans g1 (Drew.gb (w := W1) ⟨nq, rfl⟩ (some b))) _ _) _ _) _ _

end Go.Proofs.YtpbhdlhbcfkhfaaGreat
