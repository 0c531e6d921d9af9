/-
  The statement 'SpaceNil' of layer 12: a space that is not there has no keys.
  No condition on the arguments.
-/
import Derived.Test.YtmifpfojhlmbkaaGreatJ0
import Derived.Test.YtmifpfojhlmbkaaGreatJ1
import Derived.Test.YtmifpfojhlmbkaaGreatJ2
import Derived.Test.YtmifpfojhlmbkaaGreatJ3
import Derived.Test.YtmifpfojhlmbkaaGreatJ4
import Derived.Test.YtmifpfojhlmbkaaGreatJ5
import Derived.Test.YtmifpfojhlmbkaaGreatJ6
import Derived.Test.YtmifpfojhlmbkaaGreatJ7
import Derived.Test.YtmifpfojhlmbkaaGreatJ8
import Derived.Test.YtmifpfojhlmbkaaGreatJ9
import Derived.Test.YtmifpfojhlmbkaaGreatJ10
import Derived.Test.YtmifpfojhlmbkaaGreatJ11
import Derived.Test.YtmifpfojhlmbkaaGreatJ12
import Derived.Test.YtmifpfojhlmbkaaGreatJ13
import Derived.Test.YtmifpfojhlmbkaaGreatJ14
import Derived.Test.YtmifpfojhlmbkaaGreatJ15
import Derived.Test.YtmifpfojhlmbkaaGreatJ16
import Derived.Test.YtmifpfojhlmbkaaGreatJ17
import Derived.Test.YtmifpfojhlmbkaaGreatJ18
import Derived.Test.YtmifpfojhlmbkaaGreatJ19
import Derived.Test.YtmifpfojhlmbkaaGreatJ20
import Derived.Test.YtmifpfojhlmbkaaGreatJ21
import Derived.Test.YtmifpfojhlmbkaaGreatJ22
import Derived.Test.YtmifpfojhlmbkaaGreatJ23
import Derived.Test.YtmifpfojhlmbkaaGreatJ24
import Derived.Test.YtmifpfojhlmbkaaGreatJ25
import Derived.Test.YtmifpfojhlmbkaaGreatJ26
import Derived.Test.YtmifpfojhlmbkaaGreatJ27
import Derived.Test.YtmifpfojhlmbkaaGreatJ28
import Derived.Test.YtmifpfojhlmbkaaGreatJ29
import Derived.Test.YtmifpfojhlmbkaaGreatJ30
import Derived.Test.YtmifpfojhlmbkaaGreatJ31
import Derived.Test.YtmifpfojhlmbkaaGreatJ32
import Derived.Test.YtmifpfojhlmbkaaGreatJ33
import Derived.Test.YtmifpfojhlmbkaaGreatJ34
import Derived.Test.YtmifpfojhlmbkaaGreatJ35
import Derived.Test.YtmifpfojhlmbkaaGreatJ36
import Derived.Test.YtmifpfojhlmbkaaGreatJ37
import Derived.Test.YtmifpfojhlmbkaaGreatJ38
import Derived.Test.YtmifpfojhlmbkaaGreatJ39
import Derived.Test.YtmifpfojhlmbkaaGreatJ40
import Derived.Test.YtmifpfojhlmbkaaGreatJ41
import Derived.Test.YtmifpfojhlmbkaaGreatJ42
import Derived.Test.YtmifpfojhlmbkaaGreatJ43
import Derived.Test.YtmifpfojhlmbkaaGreatJ44
import Derived.Test.YtmifpfojhlmbkaaGreatJ45
import Derived.Test.YtmifpfojhlmbkaaGreatJ46
import Derived.Test.YtmifpfojhlmbkaaGreatJ47
import Derived.Test.YtmifpfojhlmbkaaGreatJ48
import Derived.Test.YtmifpfojhlmbkaaGreatRows
import Derived.ChangeOld
namespace Go.Proofs.YtmifpfojhlmbkaaGreat
set_option maxRecDepth 100000
set_option maxHeartbeats 16000000
open Go.RowKit
set_option linter.unusedVariables false
set_option linter.unusedSimpArgs false
theorem sNone_nil (w : World) : Calls Tryz.prog 68 #[.pointer none] w fun e w' => e = .returned (.bool true) ∧ w = w' := by
  go_enter Tryz.func68, Tryz.ntmps68
  go_wp2
  go_ret
  exact ⟨rfl, rfl⟩
end Go.Proofs.YtmifpfojhlmbkaaGreat
namespace Go.Proofs.YtmifpfojhlmbkaaGreat
set_option maxRecDepth 100000
set_option maxHeartbeats 16000000
open Go.RowKit
set_option linter.unusedVariables false
set_option linter.unusedSimpArgs false
theorem hNone_nil (w : World) : Calls Tryz.prog 53 #[.pointer none] w fun e w' => e = .returned (.bool true) ∧ w = w' := by
  go_enter Tryz.func53, Tryz.ntmps53
  go_wp2
  go_ret
  exact ⟨rfl, rfl⟩
theorem hFind_nil (w : World) (s : ByteArray) : Calls Tryz.prog 64 #[.pointer none, .string s] w fun e w' => e = .returned (.tuple #[.pointer none, .int .i64 11]) ∧ w = w' := by
  go_enter Tryz.func64, Tryz.ntmps64
  go_wp2_with fail
  refine (hNone_nil w).mono ?_
  rintro e w' ⟨rfl, rfl⟩
  go_wp2
  go_ret2
  exact ⟨rfl, rfl⟩
end Go.Proofs.YtmifpfojhlmbkaaGreat
namespace Go.Proofs.YtmifpfojhlmbkaaGreat
set_option maxRecDepth 100000
set_option maxHeartbeats 16000000
open Go.RowKit
set_option linter.unusedVariables false
set_option linter.unusedSimpArgs false
theorem hTell_nil (w : World) (s : ByteArray) (q : Qry) (a : Option Addr) (n c : Nat) : Calls Tryz.prog 31 #[.pointer none, .string s, qv q a n c] w (TellP ([], 11) w) := by
  have B0 := (Below.refl w.heap.size w).alloc (Nat.le_refl _) (.cells (qcs q a n c) 67)
  unfold qcs at B0
  have HB := Lib.hid B0
  clear B0
  unfold qv
  go_enter Tryz.func31, Tryz.ntmps31
  go_wp2_with fail
  refine (hFind_nil _ s).mono ?_
  rintro e W1 ⟨rfl, rfl⟩
  go_wp2
  go_ret2
  exact ⟨none, 0, 0, rfl, Lst.nil _, HB.out⟩
end Go.Proofs.YtmifpfojhlmbkaaGreat
namespace Go.Proofs.YtmifpfojhlmbkaaGreat
set_option maxRecDepth 100000
set_option maxHeartbeats 16000000
open Go.RowKit
set_option linter.unusedVariables false
set_option linter.unusedSimpArgs false
theorem hBegun_nil (w : World) (s : ByteArray) (sz ret pol : Int) (a : Option Addr) (n c : Nat) :
    Calls Tryz.prog 84 #[.pointer none, .string s, .agg #[.int .i64 sz, .int .i64 ret, .int .i64 pol, .slice a n c]] w fun e w' => e = .returned (.tuple #[.pointer none, .int .i64 11]) ∧ Below w.heap.size w w' := by
  have HB := Lib.hid ((Below.refl w.heap.size w).alloc (Nat.le_refl _) (.cells #[.int .i64 sz, .int .i64 ret, .int .i64 pol, .slice a n c] 30))
  go_enter Tryz.func84, Tryz.ntmps84
  go_wp2_with fail
  refine (hNone_nil _).mono ?_
  rintro e w' ⟨rfl, rfl⟩
  go_wp2
  go_ret2
  exact ⟨rfl, HB.out⟩
end Go.Proofs.YtmifpfojhlmbkaaGreat
namespace Go.Proofs.YtmifpfojhlmbkaaGreat
set_option maxRecDepth 100000
set_option maxHeartbeats 16000000
open Go.RowKit
set_option linter.unusedVariables false
set_option linter.unusedSimpArgs false
theorem hCreate_nil (w : World) (s : ByteArray) (sz ret pol : Int) (a : Option Addr) (n c : Nat) :
    Calls Tryz.prog 33 #[.pointer none, .string s, .agg #[.int .i64 sz, .int .i64 ret, .int .i64 pol, .slice a n c]] w fun e w' => e = .returned (.int .i64 11) ∧ Below w.heap.size w w' := by
  have HB := Lib.hid ((Below.refl w.heap.size w).alloc (Nat.le_refl _) (.cells #[.int .i64 sz, .int .i64 ret, .int .i64 pol, .slice a n c] 30))
  go_enter Tryz.func33, Tryz.ntmps33
  go_wp2_with fail
  refine (hBegun_nil _ s sz ret pol a n c).mono ?_
  rintro e w1 ⟨rfl, b1⟩
  have HB1 := Lib.hid (HB.out.trans (b1.mono HB.out.size))
  clear b1
  go_wp2
  go_ret
  exact ⟨rfl, HB1.out⟩
theorem hRestore_nil (w : World) (s : ByteArray) (sz ret pol : Int) (a : Option Addr) (n c : Nat) (mx line : Int) (za : Option Addr) (zn zc : Nat) :
    Calls Tryz.prog 37 #[.pointer none, .string s, .agg #[.int .i64 sz, .int .i64 ret, .int .i64 pol, .slice a n c], .int .i64 mx, .int .i64 line, .slice za zn zc] w fun e w' => e = .returned (.int .i64 11) ∧ Below w.heap.size w w' := by
  have HB := Lib.hid ((Below.refl w.heap.size w).alloc (Nat.le_refl _) (.cells #[.int .i64 sz, .int .i64 ret, .int .i64 pol, .slice a n c] 30))
  go_enter Tryz.func37, Tryz.ntmps37
  go_wp2_with fail
  refine (hBegun_nil _ s sz ret pol a n c).mono ?_
  rintro e w1 ⟨rfl, b1⟩
  have HB1 := Lib.hid (HB.out.trans (b1.mono HB.out.size))
  clear b1
  go_wp2
  go_ret
  exact ⟨rfl, HB1.out⟩
end Go.Proofs.YtmifpfojhlmbkaaGreat
namespace Go.Proofs.YtmifpfojhlmbkaaGreat
set_option maxRecDepth 100000
set_option maxHeartbeats 16000000
open Go.RowKit
set_option linter.unusedVariables false
set_option linter.unusedSimpArgs false
theorem hWr_nil (w : World) (s : ByteArray) : Calls Tryz.prog 62 #[.pointer none, .string s] w fun e w' => e = .returned (.tuple #[.pointer none, .int .i64 11]) ∧ w = w' := by
  go_enter Tryz.func62, Tryz.ntmps62
  go_wp2_with fail
  refine (hFind_nil w s).mono ?_
  rintro e w' ⟨rfl, rfl⟩
  go_wp2
  go_ret2
  exact ⟨rfl, rfl⟩
end Go.Proofs.YtmifpfojhlmbkaaGreat
namespace Go.Proofs.YtmifpfojhlmbkaaGreat
set_option maxRecDepth 100000
set_option maxHeartbeats 16000000
open Go.RowKit
set_option linter.unusedVariables false
set_option linter.unusedSimpArgs false
theorem hAdd_nil (w : World) (s : ByteArray) (T V p : Int) : Calls Tryz.prog 18 #[.pointer none, .string s, .agg #[.int .i64 T, .int .i64 V], .int .i64 p] w fun e w' => e = .returned (.int .i64 11) ∧ Below w.heap.size w w' := by
  have HB := Lib.hid ((Below.refl w.heap.size w).alloc (Nat.le_refl _) (.cells #[.int .i64 T, .int .i64 V] 27))
  go_enter Tryz.func18, Tryz.ntmps18
  go_wp2_with fail
  refine (hWr_nil _ s).mono ?_
  rintro e w' ⟨rfl, rfl⟩
  go_wp2
  go_ret
  exact ⟨rfl, HB.out⟩
theorem hInc_nil (w : World) (s : ByteArray) (t y : Int) : Calls Tryz.prog 29 #[.pointer none, .string s, .int .i64 t, .int .i64 y] w fun e w' => e = .returned (.tuple #[.int .i64 0, .int .i64 11]) ∧ w = w' := by
  go_enter Tryz.func29, Tryz.ntmps29
  go_wp2_with fail
  refine (hWr_nil _ s).mono ?_
  rintro e w' ⟨rfl, rfl⟩
  go_wp2
  go_ret2
  exact ⟨rfl, rfl⟩
theorem hDel_nil (w : World) (s : ByteArray) (t y : Int) : Calls Tryz.prog 30 #[.pointer none, .string s, .int .i64 t, .int .i64 y] w fun e w' => e = .returned (.tuple #[.int .i64 0, .int .i64 11]) ∧ w = w' := by
  go_enter Tryz.func30, Tryz.ntmps30
  go_wp2_with fail
  refine (hWr_nil _ s).mono ?_
  rintro e w' ⟨rfl, rfl⟩
  go_wp2
  go_ret2
  exact ⟨rfl, rfl⟩
end Go.Proofs.YtmifpfojhlmbkaaGreat
namespace Go.Proofs.YtmifpfojhlmbkaaGreat
set_option maxRecDepth 100000
set_option maxHeartbeats 16000000
open Go.RowKit
set_option linter.unusedVariables false
set_option linter.unusedSimpArgs false
theorem hRelink_nil (w : World) (r : Ru) : Calls Tryz.prog 38 #[.pointer none, .agg #[.string (bs r.src), .string (bs r.dst), .int .i64 r.kind, .int .i64 r.size, .int .i64 r.align]] w fun e w' => e = .returned (.int .i64 11) ∧ Below w.heap.size w w' := by
  have HB := Lib.hid ((Below.refl w.heap.size w).alloc (Nat.le_refl _) (.cells #[.string (bs r.src), .string (bs r.dst), .int .i64 r.kind, .int .i64 r.size, .int .i64 r.align] 32))
  go_enter Tryz.func38, Tryz.ntmps38
  go_wp2_with fail
  refine (hNone_nil _).mono ?_
  rintro e w' ⟨rfl, rfl⟩
  go_wp2
  go_ret
  exact ⟨rfl, HB.out⟩
end Go.Proofs.YtmifpfojhlmbkaaGreat
namespace Go.Proofs.YtmifpfojhlmbkaaGreat
set_option maxRecDepth 100000
set_option maxHeartbeats 16000000
open Go.RowKit
set_option linter.unusedVariables false
set_option linter.unusedSimpArgs false
theorem hLink_nil (w : World) (r : Ru) : Calls Tryz.prog 35 #[.pointer none, .agg #[.string (bs r.src), .string (bs r.dst), .int .i64 r.kind, .int .i64 r.size, .int .i64 r.align]] w fun e w' => e = .returned (.int .i64 11) ∧ Below w.heap.size w w' := by
  have B1 := (Below.refl w.heap.size w).alloc (Nat.le_refl _) (.cells #[.string (bs r.src), .string (bs r.dst), .int .i64 r.kind, .int .i64 r.size, .int .i64 r.align] 32)
  have HB := Lib.hid B1
  clear B1
  go_enter Tryz.func35, Tryz.ntmps35
  go_wp2_with fail
  refine (hRelink_nil _ r).mono ?_
  rintro e w1 ⟨rfl, b1⟩
  have HB1 := Lib.hid (HB.out.trans (b1.mono HB.out.size))
  clear b1
  go_wp2
  go_ret
  exact ⟨rfl, HB1.out⟩
end Go.Proofs.YtmifpfojhlmbkaaGreat
namespace Go.Proofs.YtmifpfojhlmbkaaGreat
set_option maxRecDepth 100000
set_option maxHeartbeats 16000000
open Go.RowKit
set_option linter.unusedVariables false
set_option linter.unusedSimpArgs false
def OptN (w : World) (e : Ending) (w' : World) : Prop := e = .returned (.tuple #[.agg #[.int .i64 0, .int .i64 0, .int .i64 0, .slice none 0 0], .bool false]) ∧ Below w.heap.size w w'
theorem hOptions_nil (w : World) (s : ByteArray) : Calls Tryz.prog 32 #[.pointer none, .string s] w (OptN w) := by
  go_enter Tryz.func32, Tryz.ntmps32
  go_wp2_with fail
  obtain ⟨W0, hW⟩ : ∃ W, w.alloc (.cells #[.int .i64 0, .int .i64 0, .int .i64 0, .slice none 0 0] 30) = W := ⟨_, rfl⟩
  obtain ⟨h0, B0, hs0⟩ := alloc1 _ _ _ hW
  rw [hW]
  clear hW
  refine (hFind_nil _ s).mono ?_
  rintro e W1 ⟨rfl, rfl⟩
  generalize hx : w.heap.size = x at *
  have f0 := frozen_of (o := 0) h0
  have f1 := frozen_of (o := 1) h0
  have f2 := frozen_of (o := 2) h0
  have f3 := frozen_of (o := 3) h0
  have c0 : W0.cell? ⟨x, 0, none⟩ = some (.int .i64 0) := by rw [cell_of h0]; rfl
  have c1 : W0.cell? ⟨x, 1, none⟩ = some (.int .i64 0) := by rw [cell_of h0]; rfl
  have c2 : W0.cell? ⟨x, 2, none⟩ = some (.int .i64 0) := by rw [cell_of h0]; rfl
  have c3 : W0.cell? ⟨x, 3, none⟩ = some (.slice none 0 0) := by rw [cell_of h0]; rfl
  have H0 := Lib.hid h0
  clear h0
  go_wp2
  refine bodyPost_ret (results_cell_pair rfl _ _ x _ _ _ _ (.bool false) rfl rfl (heap_set (heap_set (heap_set (heap_set H0.out)))) Tryz.underlying30 rfl (by kernel_rfl)) rfl ?_
  exact ⟨rfl, by rw [hx]; exact (((B0.setCell (p := ⟨x, 0, none⟩) (Nat.le_refl _) _).setCell (p := ⟨x, 1, none⟩) (Nat.le_refl _) _).setCell (p := ⟨x, 2, none⟩) (Nat.le_refl _) _).setCell (p := ⟨x, 3, none⟩) (Nat.le_refl _) _⟩
end Go.Proofs.YtmifpfojhlmbkaaGreat
namespace Go.Proofs.YtmifpfojhlmbkaaGreat
set_option maxRecDepth 100000
set_option maxHeartbeats 16000000
open Go.RowKit
set_option linter.unusedVariables false
set_option linter.unusedSimpArgs false
theorem hKeys_nil (w : World) : Calls Tryz.prog 20 #[.pointer none] w fun e w' => e = .returned (.slice none 0 0) ∧ w = w' := by
  go_enter Tryz.func20, Tryz.ntmps20
  go_wp2_with fail
  refine (hNone_nil w).mono ?_
  rintro e w' ⟨rfl, rfl⟩
  go_wp2
  go_ret
  exact ⟨rfl, rfl⟩
theorem hRules_nil (w : World) : Calls Tryz.prog 12 #[.pointer none] w fun e w' => e = .returned (.slice none 0 0) ∧ w = w' := by
  go_enter Tryz.func12, Tryz.ntmps12
  go_wp2_with fail
  refine (hNone_nil w).mono ?_
  rintro e w' ⟨rfl, rfl⟩
  go_wp2
  go_ret
  exact ⟨rfl, rfl⟩
theorem hCopy_nil (w : World) : Calls Tryz.prog 16 #[.pointer none] w fun e w' => e = .returned (.pointer none) ∧ w = w' := by
  go_enter Tryz.func16, Tryz.ntmps16
  go_wp2_with fail
  refine (hNone_nil w).mono ?_
  rintro e w' ⟨rfl, rfl⟩
  go_wp2
  go_ret
  exact ⟨rfl, rfl⟩
theorem hFindK_nil (w : World) (a : Option Addr) (n c : Nat) : Calls Tryz.prog 39 #[.pointer none, .slice a n c] w fun e w' => e = .returned (.slice none 0 0) ∧ w = w' := by
  go_enter Tryz.func39, Tryz.ntmps39
  go_wp2_with fail
  refine (hNone_nil w).mono ?_
  rintro e w' ⟨rfl, rfl⟩
  go_wp2
  go_ret
  exact ⟨rfl, rfl⟩
theorem hUnlink_nil (w : World) (s d : ByteArray) : Calls Tryz.prog 36 #[.pointer none, .string s, .string d] w fun e w' => e = .returned (.int .i64 11) ∧ w = w' := by
  go_enter Tryz.func36, Tryz.ntmps36
  go_wp2_with fail
  refine (hNone_nil w).mono ?_
  rintro e w' ⟨rfl, rfl⟩
  go_wp2
  go_ret
  exact ⟨rfl, rfl⟩
theorem hDrop_nil (w : World) (s : ByteArray) : Calls Tryz.prog 25 #[.pointer none, .string s] w fun e w' => e = .returned (.bool false) ∧ w = w' := by
  go_enter Tryz.func25, Tryz.ntmps25
  go_wp2_with fail
  refine (hNone_nil w).mono ?_
  rintro e w' ⟨rfl, rfl⟩
  go_wp2
  go_ret
  exact ⟨rfl, rfl⟩
theorem hAlter_nil (w : World) (s : ByteArray) (r p : Int) (a : Option Addr) (n c : Nat) : Calls Tryz.prog 34 #[.pointer none, .string s, .int .i64 r, .int .i64 p, .slice a n c] w fun e w' => e = .returned (.int .i64 11) ∧ w = w' := by
  go_enter Tryz.func34, Tryz.ntmps34
  go_wp2_with fail
  refine (hFind_nil w s).mono ?_
  rintro e w' ⟨rfl, rfl⟩
  go_wp2
  go_ret
  exact ⟨rfl, rfl⟩
theorem scopy_nil12 (w : World) : Calls Tryz.prog 61 #[.pointer none] w fun e w' => e = .returned (.pointer none) ∧ w = w' := by
  go_enter Tryz.func61, Tryz.ntmps61
  go_wp2_with fail
  refine (sNone_nil w).mono ?_
  rintro e w' ⟨rfl, rfl⟩
  go_wp2
  go_ret
  exact ⟨rfl, rfl⟩
theorem hSeries_nil (w : World) (s : ByteArray) : Calls Tryz.prog 19 #[.pointer none, .string s] w fun e w' => e = .returned (.pointer none) ∧ w = w' := by
  go_enter Tryz.func19, Tryz.ntmps19
  go_wp2_with fail
  refine (hFind_nil w s).mono ?_
  rintro e w' ⟨rfl, rfl⟩
  go_wp2_with fail
  refine (scopy_nil12 w).mono ?_
  rintro e w' ⟨rfl, rfl⟩
  go_wp2
  go_ret
  exact ⟨rfl, rfl⟩
end Go.Proofs.YtmifpfojhlmbkaaGreat
namespace Go.Proofs.YtmifpfojhlmbkaaGreat
set_option maxRecDepth 100000
set_option maxHeartbeats 16000000
namespace spaceNil
open Go.ChangeShapes Go.WideShapes Go.ChangeAt Go.RowKit
open Go.ChangeMaps (open_string shut_string)
set_option linter.unusedVariables false
set_option linter.unusedSimpArgs false
theorem own : ownKnob Tryz.prog.godebug = none := by kernel_rfl
def BoxQ (w : World) (b : Nat) (q : Op12) (a : Option Addr) (n c : Nat) : Prop := w.heap[b]? = some (.cells #[.int .i64 q.k, .string (bs q.key), .int .i64 q.T, .int .i64 q.V, .int .i64 q.p, .int .i64 q.sz, .int .i64 q.ret, .int .i64 q.pol, .slice a n c, .string (bs q.r.src), .string (bs q.r.dst), .int .i64 q.r.kind, .int .i64 q.r.size, .int .i64 q.r.align] 34 (0, 0))
theorem BoxQ.keep {w w' : World} {b : Nat} {q : Op12} {a : Option Addr} {n c : Nat} (h : BoxQ w b q a n c) (k : Below w.heap.size w w') : BoxQ w' b q a n c := (k.block b (heap_lt h)).trans h
theorem BoxQ.all {w : World} {b : Nat} {q : Op12} {a : Option Addr} {n c : Nat} (h : BoxQ w b q a n c) : w.cell? ⟨b, 0, none⟩ = some (.int .i64 q.k) ∧ w.cell? ⟨b, 1, none⟩ = some (.string (bs q.key)) ∧ w.cell? ⟨b, 2, none⟩ = some (.int .i64 q.T) ∧ w.cell? ⟨b, 3, none⟩ = some (.int .i64 q.V) ∧ w.cell? ⟨b, 4, none⟩ = some (.int .i64 q.p) ∧ w.cell? ⟨b, 5, none⟩ = some (.int .i64 q.sz) ∧ w.cell? ⟨b, 6, none⟩ = some (.int .i64 q.ret) ∧ w.cell? ⟨b, 7, none⟩ = some (.int .i64 q.pol) ∧ w.cell? ⟨b, 8, none⟩ = some (.slice a n c) ∧ w.cell? ⟨b, 9, none⟩ = some (.string (bs q.r.src)) ∧ w.cell? ⟨b, 10, none⟩ = some (.string (bs q.r.dst)) ∧ w.cell? ⟨b, 11, none⟩ = some (.int .i64 q.r.kind) ∧ w.cell? ⟨b, 12, none⟩ = some (.int .i64 q.r.size) ∧ w.cell? ⟨b, 13, none⟩ = some (.int .i64 q.r.align) := by
  refine ⟨?_, ?_, ?_, ?_, ?_, ?_, ?_, ?_, ?_, ?_, ?_, ?_, ?_, ?_⟩ <;> (rw [cell_of h]; rfl)
theorem walk (q : Op12) (a : Option Addr) (n c : Nat) (w : World) (_ : LbAt w a n c q.l ∧ in64 q.T ∧ in64 q.V) :
    Calls Tryz.prog 6 #[.agg (opC q a n c).toArray] w fun e w' => e = .returned (.bool true) ∧ Below w.heap.size w w' := by
  show Calls Tryz.prog 6 #[.agg #[.int .i64 q.k, .string (bs q.key), .int .i64 q.T, .int .i64 q.V, .int .i64 q.p, .int .i64 q.sz, .int .i64 q.ret, .int .i64 q.pol, .slice a n c, .string (bs q.r.src), .string (bs q.r.dst), .int .i64 q.r.kind, .int .i64 q.r.size, .int .i64 q.r.align]] w _
  have B := Lib.hid ((Below.refl w.heap.size w).alloc (Nat.le_refl _) (.cells #[.int .i64 q.k, .string (bs q.key), .int .i64 q.T, .int .i64 q.V, .int .i64 q.p, .int .i64 q.sz, .int .i64 q.ret, .int .i64 q.pol, .slice a n c, .string (bs q.r.src), .string (bs q.r.dst), .int .i64 q.r.kind, .int .i64 q.r.size, .int .i64 q.r.align] 34))
  have X : Hid (BoxQ (w.alloc (.cells #[.int .i64 q.k, .string (bs q.key), .int .i64 q.T, .int .i64 q.V, .int .i64 q.p, .int .i64 q.sz, .int .i64 q.ret, .int .i64 q.pol, .slice a n c, .string (bs q.r.src), .string (bs q.r.dst), .int .i64 q.r.kind, .int .i64 q.r.size, .int .i64 q.r.align] 34)) w.heap.size q a n c) := Lib.hid (heap_new w _)
  go_enter Tryz.func6, Tryz.ntmps6
  go_wp2_with fail
  generalize w.alloc (.cells #[.int .i64 q.k, .string (bs q.key), .int .i64 q.T, .int .i64 q.V, .int .i64 q.p, .int .i64 q.sz, .int .i64 q.ret, .int .i64 q.pol, .slice a n c, .string (bs q.r.src), .string (bs q.r.dst), .int .i64 q.r.kind, .int .i64 q.r.size, .int .i64 q.r.align] 34) = W0 at *
  generalize hqb : w.heap.size = qb at *
  have HQB := Lib.hid hqb
  clear hqb
  obtain ⟨x0, x1, x2, x3, x4, x5, x6, x7, x8, x9, x10, x11, x12, x13⟩ := X.out.all
  go_wp2_with fail
  refine (hInc_nil _ (bs q.key) 1 1).mono ?_
  rintro e w' ⟨rfl, rfl⟩
  go_wp2_with fail
  refine (hDel_nil _ (bs q.key) 1 1).mono ?_
  rintro e w' ⟨rfl, rfl⟩
  have CT := hTell_nil W0 (bs q.key) qz none 0 0
  rw [qvz] at CT
  replace CT := Lib.hid CT
  go_wp2_with fail
  clear x0 x1 x2 x3 x4 x5 x6 x7 x8 x9 x10 x11 x12 x13
  refine (CT.out).mono ?_
  rintro e W1 ⟨at_, nt, ct, rfl, _, br⟩
  replace X := Lib.hid (X.out.keep br)
  replace B := Lib.hid (B.out.trans (br.mono (by have h := B.out.size; rw [HQB.out] at h; exact h)))
  clear br
  obtain ⟨x0, x1, x2, x3, x4, x5, x6, x7, x8, x9, x10, x11, x12, x13⟩ := X.out.all
  clear CT
  go_wp2_with fail
  clear x0 x1 x2 x3 x4 x5 x6 x7 x8 x9 x10 x11 x12 x13
  refine (hOptions_nil _ (bs q.key)).mono ?_
  rintro e W2 ⟨rfl, br⟩
  replace X := Lib.hid (X.out.keep br)
  replace B := Lib.hid (B.out.trans (br.mono (by have h := B.out.size; rw [HQB.out] at h; exact h)))
  clear br
  obtain ⟨x0, x1, x2, x3, x4, x5, x6, x7, x8, x9, x10, x11, x12, x13⟩ := X.out.all
  have br := (Below.refl W2.heap.size W2).alloc (Nat.le_refl _) (.cells #[.int .i64 0, .int .i64 0, .int .i64 0, .slice none 0 0] 30)
  have X2 := Lib.hid (X.out.keep br)
  have B2 := Lib.hid (B.out.trans (br.mono (by have h := B.out.size; rw [HQB.out] at h; exact h)))
  clear br
  clear x0 x1 x2 x3 x4 x5 x6 x7 x8 x9 x10 x11 x12 x13
  obtain ⟨x0, x1, x2, x3, x4, x5, x6, x7, x8, x9, x10, x11, x12, x13⟩ := X2.out.all
  go_wp2_with fail
  clear x0 x1 x2 x3 x4 x5 x6 x7 x8 x9 x10 x11 x12 x13
  clear X B
  generalize W2.alloc (.cells #[.int .i64 0, .int .i64 0, .int .i64 0, .slice none 0 0] 30) = W3 at *
  have X := X2
  have B := B2
  clear X2 B2
  refine (hCreate_nil _ (bs q.key) q.sz q.ret q.pol a n c).mono ?_
  rintro e W4 ⟨rfl, br⟩
  replace X := Lib.hid (X.out.keep br)
  replace B := Lib.hid (B.out.trans (br.mono (by have h := B.out.size; rw [HQB.out] at h; exact h)))
  clear br
  obtain ⟨x0, x1, x2, x3, x4, x5, x6, x7, x8, x9, x10, x11, x12, x13⟩ := X.out.all
  go_wp2_with fail
  refine (hAlter_nil _ (bs q.key) 0 1 none 0 0).mono ?_
  rintro e w' ⟨rfl, rfl⟩
  go_wp2_with fail
  refine (hDrop_nil _ (bs q.key)).mono ?_
  rintro e w' ⟨rfl, rfl⟩
  go_wp2_with fail
  clear x0 x1 x2 x3 x4 x5 x6 x7 x8 x9 x10 x11 x12 x13
  refine (hAdd_nil _ (bs q.key) q.T q.V 0).mono ?_
  rintro e W5 ⟨rfl, br⟩
  replace X := Lib.hid (X.out.keep br)
  replace B := Lib.hid (B.out.trans (br.mono (by have h := B.out.size; rw [HQB.out] at h; exact h)))
  clear br
  obtain ⟨x0, x1, x2, x3, x4, x5, x6, x7, x8, x9, x10, x11, x12, x13⟩ := X.out.all
  go_wp2_with fail
  clear x0 x1 x2 x3 x4 x5 x6 x7 x8 x9 x10 x11 x12 x13
  refine (hLink_nil _ q.r).mono ?_
  rintro e W6 ⟨rfl, br⟩
  replace X := Lib.hid (X.out.keep br)
  replace B := Lib.hid (B.out.trans (br.mono (by have h := B.out.size; rw [HQB.out] at h; exact h)))
  clear br
  obtain ⟨x0, x1, x2, x3, x4, x5, x6, x7, x8, x9, x10, x11, x12, x13⟩ := X.out.all
  go_wp2_with fail
  refine (hUnlink_nil _ ⟨#[97]⟩ ⟨#[98]⟩).mono ?_
  rintro e w' ⟨rfl, rfl⟩
  go_wp2_with fail
  clear x0 x1 x2 x3 x4 x5 x6 x7 x8 x9 x10 x11 x12 x13
  refine (hRestore_nil _ (bs q.key) q.sz q.ret q.pol a n c 0 0 none 0 0).mono ?_
  rintro e W7 ⟨rfl, br⟩
  replace X := Lib.hid (X.out.keep br)
  replace B := Lib.hid (B.out.trans (br.mono (by have h := B.out.size; rw [HQB.out] at h; exact h)))
  clear br
  obtain ⟨x0, x1, x2, x3, x4, x5, x6, x7, x8, x9, x10, x11, x12, x13⟩ := X.out.all
  go_wp2_with fail
  clear x0 x1 x2 x3 x4 x5 x6 x7 x8 x9 x10 x11 x12 x13
  refine (hRelink_nil _ q.r).mono ?_
  rintro e W8 ⟨rfl, br⟩
  replace X := Lib.hid (X.out.keep br)
  replace B := Lib.hid (B.out.trans (br.mono (by have h := B.out.size; rw [HQB.out] at h; exact h)))
  clear br
  obtain ⟨x0, x1, x2, x3, x4, x5, x6, x7, x8, x9, x10, x11, x12, x13⟩ := X.out.all
  go_wp2_with fail
  refine (hSeries_nil _ (bs q.key)).mono ?_
  rintro e w' ⟨rfl, rfl⟩
  go_wp2_with fail
  refine (hFindK_nil _ none 0 0).mono ?_
  rintro e w' ⟨rfl, rfl⟩
  go_wp2_with fail
  refine (hKeys_nil _).mono ?_
  rintro e w' ⟨rfl, rfl⟩
  go_wp2_with fail
  refine (hRules_nil _).mono ?_
  rintro e w' ⟨rfl, rfl⟩
  go_wp2_with fail
  refine (hCopy_nil _).mono ?_
  rintro e w' ⟨rfl, rfl⟩
  go_wp2_with fail
  clear x0 x1 x2 x3 x4 x5 x6 x7 x8 x9 x10 x11 x12 x13
  refine (known12_any _).mono ?_
  rintro e W ⟨rfl, br⟩
  replace B := Lib.hid (B.out.trans (br.mono (by have h := B.out.size; rw [HQB.out] at h; exact h)))
  clear br
  go_wp2
  go_ret
  exact ⟨rfl, by rw [HQB.out]; exact B.out⟩
theorem lifted (os : Os) (started : os.Started) (H : Type) (enc : TypeId × Value → H) :
    ReturnsInHanded {} Tryz.checked os 6 .any (Rows.spaceNilSpec.pre6 enc Tryz.prog Tryz.f6 Rows.spaceNilRow.domain false) (Rows.spaceNilSpec.post enc Tryz.prog Tryz.f6 false true false false) := by
  refine returnsInHanded_of_change (C := Tryz.checked) own started (by kernel_rfl) Tryz.func6
    (ChangeSpec.witness6 (enc := enc) (C := Tryz.checked) false ⟨#[], #[.agg #[.int .i64 0, .string ByteArray.empty, .int .i64 0, .int .i64 0, .int .i64 0, .int .i64 0, .int .i64 0, .int .i64 0, .slice none 0 0, .string ByteArray.empty, .string ByteArray.empty, .int .i64 0, .int .i64 0, .int .i64 0]], []⟩ 8 (by kernel_rfl) (by kernel_rfl) (by kernel_rfl) (by kernel_rfl)) ?_
  intro W base args ds gs before hval0 hW hcnd _
  have hval : ∀ (j : Nat) t v, Tryz.f6.params[j]? = some t → args[j]? = some v → Value.okWide Tryz.prog W .any base t v := hval0
  have hW' := hW
  obtain ⟨p, q, hA0, hV, rfl, hfz, hnd⟩ := hW
  have hA : DataW.TrodAll enc Tryz.prog W 0 (fun _ => true) true Tryz.f6.params.toList args.toList ds p := hA0
  rw [Tryz.params6] at hA hval
  obtain ⟨v0, vs0, d0, ds0, p0, q0, hargs, rfl, rfl, h0, r0⟩ := trodAll_cons hA
  obtain ⟨rfl, rfl, rfl⟩ := trodAll_nil r0
  obtain rfl : args = #[v0] := by cases args; simp_all
  obtain ⟨rfl, rfl⟩ := trodVars_none hV
  have k0 := h0
  have lt0 : ∀ x ∈ p0, x.block < W.heap.size := by obtain ⟨m, hm⟩ := k0; exact DataW.trod_lt m _ _ _ hm
  obtain ⟨a0, qa0, qn0, qc0, rfl, w0⟩ := open_op12 (hval 0 34 v0 rfl rfl) h0
  clear hA0 hval0
  refine (walk a0 qa0 qn0 qc0 W w0).mono fun e W' ⟨he, bel⟩ => ?_
  subst he
  exact ⟨_, rfl, _, _, _, [], _, [], hW', trodAll_mk1 (shut_bool Tryz.underlying4 _), (trodAll_cons_mk (Below.trod laidOut (by kernel_rfl) (of_decide_eq_true (by kernel_rfl)) k0 bel lt0) trodAll_mk0), rfl, bel.frame _, fun h => by cases h⟩
theorem closed : joinedFacts Tryz.pinned.checked.prog 6 Tryz.f6 Rows.spaceNilSpec Rows.spaceNilRow = true := by
  unfold joinedFacts
  repeat' (with_reducible refine Bool.and_eq_true_iff.2 ⟨?_, ?_⟩)
  all_goals as_aux_lemma => kernel_rfl
theorem over : Rows.spaceNilRow.holds Tryz.pinned (OpenSpec.ofChange Rows.spaceNilSpec) :=
  OpenClaim.holds_of_wide 6 Tryz.f6 rfl rfl rfl rfl rfl rfl rfl ⟨rfl, rfl, rfl, rfl, rfl⟩ rfl rfl rfl rfl rfl (by kernel_rfl) Tryz.func6 closed
    (of_decide_eq_true (by kernel_rfl)) (by unfold Func.isWrapper; first | (rw [if_pos (by decide +kernel)]; kernel_rfl) | (rw [if_neg (by decide +kernel)]; exact ⟨rfl, rfl⟩))
    (fun os started H enc _ => lifted os started H enc)
theorem proved : Rows.SpaceNilSaid := over
end spaceNil
theorem spaceNil_holds : Rows.SpaceNilSaid := spaceNil.proved
#print axioms spaceNil_holds
end Go.Proofs.YtmifpfojhlmbkaaGreat
