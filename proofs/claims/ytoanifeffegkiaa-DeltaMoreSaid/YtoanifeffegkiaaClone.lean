/-
  Contracts of strings.Clone and of make of a row of bytes: the same bytes; of what was there nothing has turned.
  Condition: the text has at most 2^47 bytes.
-/
import Derived.Test.YtoanifeffegkiaaHeap
import Derived.Lib.BufferWrite
import Derived.Lib.UnsafeStr
import Derived.Lib.Buffer
import Derived.Lib.Strings
namespace Go.Proofs.Ytoanifeffegkiaa
open Go.RowKit
set_option linter.unusedVariables false

/-- A row of bytes as cells. -/
def bc (l : List Nat) : Array Value := (l.map fun n : Nat => Value.int .u8 (n : Int)).toArray
theorem bc_size (l : List Nat) : (bc l).size = l.length := by simp [bc]
theorem bc_get (l : List Nat) (i : Nat) : (bc l)[i]? = l[i]?.map fun n : Nat => Value.int .u8 (n : Int) := by simp [bc]
theorem bc_zeros (n : Nat) : madeCells (Value.int .u8 0).cells n = bc (List.replicate n 0) := by
  apply Array.toList_inj.1
  rw [show (Value.int .u8 0).cells = #[Value.int .u8 0] from rfl, toList_madeCells_one]
  simp [bc]

theorem info_u8 : ∃ i : TypeInfo, Try.prog.info? 5 = some i ∧ i.zero = some (.int .u8 0) ∧ i.size = 1 ∧ i.bytes = 1 := ⟨_, rfl, rfl, rfl, rfl⟩

theorem make_bytes (n : Nat) (hn : n ≤ 281474976710656) (W : World) :
    (Instr.makeSlice 73 (.int .i64 (n : Int)) (.int .i64 (n : Int))).run Try.prog W = .ok (.slice (some ⟨W.heap.size, 0, none⟩) n n) (W.alloc (.cells (bc (List.replicate n 0)) 5)) := by
  obtain ⟨i, hi, hz, hs, hb⟩ := info_u8
  have h := run_make (P := Try.prog) W 73 5 i (.int .u8 0) Try.underlying73 hi hz .i64 .i64 (n : Int) (n : Int) (by omega) (by omega) (by rw [hb]; omega) (by omega)
  rw [hs, Nat.mul_one, Int.toNat_natCast, bc_zeros] at h
  exact h


set_option maxRecDepth 100000 in
set_option maxHeartbeats 1000000 in
theorem sclone_any (s : ByteArray) (w : World) (hs : s.size ≤ 140737488355328) :
    Calls Try.prog 53 #[.string s] w fun e w' => e = .returned (.string s) ∧ Below w.heap.size w w' := by
  by_cases h0 : s.size = 0
  · obtain rfl : s = ⟨#[]⟩ := ByteArray.ext (Array.eq_empty_of_size_eq_zero h0)
    go_enter Try.func53, Try.ntmps53
    go_wp2
    go_ret
    exact ⟨rfl, Below.refl _ _⟩
  · have hl : s.data.toList.length = s.size := (Lib.size_eq s).symm
    have hmk := make_bytes s.size (by omega)
    have hinfo : (Try.prog.info? 5).map (·.size) = some 1 := by obtain ⟨i, hi, _, hz, _⟩ := info_u8; rw [hi]; simp [hz]
    have hcp := Lib.run_copy_row_string (P := Try.prog) (w.alloc (.cells (bc (List.replicate s.size 0)) 5)) 73 9 3 5 w.heap.size 0 s.size s.size s _ 5 Try.underlying73 hinfo (heap_new w _) (Nat.le_refl _) (by rw [bc_size]; simp)
    have hrow : ((bc (List.replicate s.size 0)).toList.take 0 ++ Lib.byteCells s.data.toList ++ (bc (List.replicate s.size 0)).toList.drop (0 + s.size)).toArray = (Lib.byteCells s.data.toList).toArray := by
      rw [List.take_zero, List.nil_append, List.drop_of_length_le (by simp [bc]), List.append_nil]
    rw [hrow] at hcp
    have hheap : ((w.alloc (.cells (bc (List.replicate s.size 0)) 5)).setRow w.heap.size (Lib.byteCells s.data.toList).toArray).heap[w.heap.size]? = some (.cells (Lib.byteCells s.data.toList).toArray 5 (0, 0)) := setRow_heap _ _ _ _ _ _ (heap_new w _)
    have hus := Lib.run_unsafeString_row (P := Try.prog) ((w.alloc (.cells (bc (List.replicate s.size 0)) 5)).setRow w.heap.size (Lib.byteCells s.data.toList).toArray) 98 3 9 5 Try.underlying98 (by kernel_rfl) w.heap.size s.size
      (by unfold World.shape?; rw [hheap]; simp [Lib.byteCells, hl]) s.data.toList (fun e => h0 (by rw [← hl, e]; rfl)) (by omega) (by omega)
      (fun j x hx => Lib.cells_of_row hheap s.size j _ (by simp [Lib.byteCells, List.getElem?_take, hx]; have := (List.getElem?_eq_some_iff.1 hx).1; omega))
    rw [hl] at hus
    have hb : Below w.heap.size w ((w.alloc (.cells (bc (List.replicate s.size 0)) 5)).setRow w.heap.size (Lib.byteCells s.data.toList).toArray) :=
      ((Below.refl _ w).alloc (Nat.le_refl _) _).trans ⟨rfl, rfl, rfl, by simp, fun k hk => setRow_other _ _ _ _ (by omega)⟩
    have HB := Lib.hid hb
    clear hb hheap hrow hinfo hl
    generalize bc (List.replicate s.size 0) = M at *
    generalize (Lib.byteCells s.data.toList).toArray = Y at *
    go_enter Try.func53, Try.ntmps53
    go_wp2
    go_ret
    exact ⟨rfl, Lib.below_freeze HB.out (p := ⟨w.heap.size, 0, none⟩) (Nat.le_refl _) _⟩

set_option maxHeartbeats 400000 in
theorem clone_any (s : ByteArray) (w : World) (hs : s.size ≤ 140737488355328) :
    Calls Try.prog 41 #[.string s] w fun e w' => e = .returned (.string s) ∧ Below w.heap.size w w' := by
  go_enter Try.func41, Try.ntmps41
  go_wp2_with fail
  refine (sclone_any s _ hs).mono ?_
  rintro e w' ⟨rfl, hb⟩
  go_wp2
  go_ret
  exact ⟨rfl, hb⟩

end Go.Proofs.Ytoanifeffegkiaa
