/-
  Rows of bytes in memory, and the text that they are.
-/
import Derived.Test.YtifjbbiphekmmaaGreatDoorBase
import Derived.Lib.BufferWrite
import Derived.Lib.UnsafeStr
import Derived.Lib.Buffer
import Derived.Lib.Strings
namespace Go.Proofs.YtifjbbiphekmmaaGreatDoor
open Go.RowKit
set_option linter.unusedVariables false

/-- A row of bytes as cells. -/
def bc (l : List Nat) : Array Value := (l.map fun n : Nat => Value.int .u8 (n : Int)).toArray
theorem bc_size (l : List Nat) : (bc l).size = l.length := by simp [bc]
theorem bc_get (l : List Nat) (i : Nat) : (bc l)[i]? = l[i]?.map fun n : Nat => Value.int .u8 (n : Int) := by simp [bc]
set_option maxRecDepth 100000 in
theorem info_u8 : ∃ i : TypeInfo, Tryz.prog.info? 5 = some i ∧ i.zero = some (.int .u8 0) ∧ i.size = 1 ∧ i.bytes = 1 := ⟨_, rfl, rfl, rfl, rfl⟩

theorem foldl_push (ns : List Nat) (s : ByteArray) : (ns.map fun n : Nat => (n : Int)).foldl (fun r n => r.push (UInt8.ofNat n.toNat)) s = ⟨s.data ++ (ns.map UInt8.ofNat).toArray⟩ := by
  induction ns generalizing s with
  | nil => simp
  | cons n ns ih =>
    simp only [List.map_cons, List.foldl_cons]
    rw [ih]
    apply ByteArray.ext
    simp [ByteArray.push]

theorem conv_row (g cap : Nat) (l : List Nat) (W : World) (h : W.heap[g]? = some (.cells (bc l) 5 (0, 0))) :
    (convert 103 9 (.slice (some ⟨g, 0, none⟩) l.length cap)).run Tryz.prog W = .ok (.string ⟨(l.map UInt8.ofNat).toArray⟩) W := by
  rw [run_convert_bytes_string (P := Tryz.prog) W 103 9 5 _ _ _ Tryz.underlying103 Tryz.underlying5 Tryz.underlying9]
  have hl := run_loadCells_list (P := Tryz.prog) W ⟨g, 0, none⟩ (l.map fun n : Nat => Value.int .u8 (n : Int)) (fun j v hj => by
    have : (⟨g, 0, none⟩ : Addr).add j = ⟨g, j, none⟩ := by unfold Addr.add; split <;> simp_all
    rw [this, cell_of h, bc]; simpa using hj)
  rw [List.length_map] at hl
  have := run_bytesToString (P := Tryz.prog) W ⟨g, 0, none⟩ l.length cap (l.map fun n : Nat => (n : Int)) (by rw [hl]; simp [Function.comp_def])
  rw [this, foldl_push]
  simp

/-- '==' of texts, as the walk spells it. -/
theorem text_eq (a b : ByteArray) : (a.toList == b.toList) = decide (a = b) := by
  rw [Lib.toList_data, Lib.toList_data]
  by_cases h : a = b
  · subst h; simp
  · rw [decide_eq_false h, beq_eq_false_iff_ne]
    intro e
    obtain ⟨⟨a⟩⟩ := a; obtain ⟨⟨b⟩⟩ := b
    simp at e
    exact h (by rw [e])
/-- The one cell of a new block. -/
theorem one_cell (W : World) (v : Value) (t : TypeId) : ∀ j u, [v][j]? = some u → (W.alloc (.cells #[v] t)).cell? ((⟨W.heap.size, 0, none⟩ : Addr).add j) = some u := by
  intro j u hj
  match j, hj with
  | 0, hj => simp at hj; subst hj; rw [show ((⟨W.heap.size, 0, none⟩ : Addr).add 0) = ⟨W.heap.size, 0, none⟩ from rfl, cell_of (heap_new W _)]; rfl

/-- Bytes as a row's values. -/
def uv (l : List UInt8) : List Value := l.map fun c : UInt8 => Value.int .u8 (c.toNat : Int)
theorem uv_length (l : List UInt8) : (uv l).length = l.length := by simp [uv]
theorem uv_append (a b : List UInt8) : uv (a ++ b) = uv a ++ uv b := by simp [uv]
theorem uv_one (x : Int) : ∀ u ∈ [Value.int .u8 x], u.oneCell' = true := by
  intro u hu
  simp at hu
  subst hu; rfl
theorem foldl_pushU (l : List UInt8) (s : ByteArray) : (l.map fun c : UInt8 => (c.toNat : Int)).foldl (fun r n => r.push (UInt8.ofNat n.toNat)) s = ⟨s.data ++ l.toArray⟩ := by
  induction l generalizing s with
  | nil => simp
  | cons n ns ih =>
    simp only [List.map_cons, List.foldl_cons]
    rw [ih]
    apply ByteArray.ext
    simp [ByteArray.push]
/-- The text of a row of bytes of the call's own. -/
theorem conv_own {W : World} {base : Nat} {v : Value} {l : List UInt8} {n : Nat} (hown : W.ownsRow base 5 1 v n (uv l)) (hn : l.length = n) :
    (convert 103 9 v).run Tryz.prog W = .ok (.string ⟨l.toArray⟩) W := by
  rcases hown.2 with ⟨rfl, h0⟩ | ⟨g, cp, cur, rfl, _, hgc, hl, _, hsz, htk⟩
  · obtain rfl : l = [] := List.eq_nil_of_length_eq_zero (by omega)
    rw [run_convert_bytes_string (P := Tryz.prog) W 103 9 5 _ _ _ Tryz.underlying103 Tryz.underlying5 Tryz.underlying9]
    rfl
  · rw [run_convert_bytes_string (P := Tryz.prog) W 103 9 5 _ _ _ Tryz.underlying103 Tryz.underlying5 Tryz.underlying9]
    have hl := run_loadCells_list (P := Tryz.prog) W ⟨g, 0, none⟩ (uv l) (fun j v hj => by
      have e : (⟨g, 0, none⟩ : Addr).add j = ⟨g, j, none⟩ := by unfold Addr.add; split <;> simp_all
      have hjl : j < l.length := by have := (List.getElem?_eq_some_iff.1 hj).1; rwa [uv_length] at this
      rw [e, cell_of hgc]
      rw [← htk, List.getElem?_take, if_pos (by omega), Array.getElem?_toList] at hj
      exact hj)
    rw [uv_length, hn] at hl
    have := run_bytesToString (P := Tryz.prog) W ⟨g, 0, none⟩ n cp (l.map fun c : UInt8 => (c.toNat : Int)) (by rw [hl]; simp [uv, Function.comp_def])
    rw [this, foldl_pushU]
    simp

end Go.Proofs.YtifjbbiphekmmaaGreatDoor
