/-
  Contracts.
-/
import Derived.Laws.AppendOwn
import Derived.Laws.OwnMore
import Derived.Laws.AppendOwnNone
import Derived.Sort.EncStr
import Derived.Lib.BufferWrite
import Derived.Lib.UnsafeStr
import Derived.Lib.Buffer
import Derived.Lib.Strings
import Derived.Test.YtmifpfojhlmbkaaGreatRows
import Derived.Below
import Derived.WalkKit
import Derived.WalkSpells
import Derived.WalkLawsBesides
import Derived.Lib.Hide
import Derived.RegionTactic
import Derived.ChangeAlike
import Derived.Deep.QuietTactic
import Derived.BigQuiet
namespace Go.Proofs.YtmifpfojhlmbkaaGreat
open Lib (hid)
set_option maxRecDepth 100000
set_option maxHeartbeats 16000000
open Go.RowKit
def in64 (n : Int) : Prop := -9223372036854775808 ≤ n ∧ n ≤ 9223372036854775807
theorem wrap64_in64 (n : Int) : in64 (wrap64 n) := by unfold in64 wrap64; omega
theorem ret_int {k : IntKind} {a b : Int} (h : a = b) : Ending.returned (.int k a) = .returned (.int k b) := by rw [h]
theorem ret_bool {a b : Bool} (h : a = b) : Ending.returned (.bool a) = .returned (.bool b) := by rw [h]
theorem gb_refl (w : World) (row : Option Nat) : w.grownBy w row := ⟨rfl, rfl, rfl, Nat.le_refl _, fun _ _ _ => rfl⟩
theorem gb_trans {a b c : World} {row : Option Nat} (h : a.grownBy b row) (k : b.grownBy c row) : a.grownBy c row :=
  ⟨k.os.trans h.os, k.tape.trans h.tape, k.output.trans h.output, Nat.le_trans h.size k.size, fun i hi hr => (k.block i (Nat.lt_of_lt_of_le hi h.size) hr).trans (h.block i hi hr)⟩
theorem gb_set {a w : World} {b : Nat} (h : a.grownBy w (some b)) (o : Nat) (v : Value) : a.grownBy (w.setCell ⟨b, o, none⟩ v) (some b) :=
  gb_trans h ⟨rfl, rfl, rfl, by simp [World.setCell], fun k _ hr => Below.heap_setCell _ _ _ _ (fun e => hr (by rw [e]))⟩
theorem gb_alloc {a w : World} {row : Option Nat} (h : a.grownBy w row) (o : Obj) : a.grownBy (w.alloc o) row := gb_trans h (World.grownBy_alloc w o row)
theorem gb_drew {a w : World} {row : Option Nat} (h : a.grownBy w row) : a.grownBy w.drew row := ⟨h.os, h.tape, h.output, h.size, h.block⟩
theorem gb_none {a w : World} (h : a.grownBy w none) (row : Option Nat) : a.grownBy w row := ⟨h.os, h.tape, h.output, h.size, fun k hk _ => h.block k hk (by simp)⟩
theorem gb_below {a w : World} {row : Option Nat} (h : Below a.heap.size a w) : a.grownBy w row := ⟨h.os, h.tape, h.output, h.size, fun k hk _ => h.block k hk⟩
theorem gb_below_none {a w : World} (h : a.grownBy w none) : Below a.heap.size a w := ⟨h.os, h.tape, h.output, h.size, fun k hk => h.block k hk (by simp)⟩
theorem heap_set {w : World} {b o : Nat} {v : Value} {c : Array Value} {t : TypeId} {f : Nat × Nat} (h : w.heap[b]? = some (.cells c t f)) :
    (w.setCell ⟨b, o, none⟩ v).heap[b]? = some (.cells (c.setIfInBounds o v) t f) := by
  simp [World.setCell, Array.getElem?_modify, h]
theorem heap_set_ne {w : World} {b k o : Nat} {v : Value} (h : k ≠ b) : (w.setCell ⟨b, o, none⟩ v).heap[k]? = w.heap[k]? := Below.heap_setCell _ _ _ _ h
theorem heap_lt {w : World} {b : Nat} {x : Obj} (h : w.heap[b]? = some x) : b < w.heap.size := (Array.getElem?_eq_some_iff.1 h).1
theorem heap_old {w : World} {o x : Obj} {b : Nat} (h : w.heap[b]? = some x) : (w.alloc o).heap[b]? = some x := by rw [Below.heap_alloc _ _ _ (heap_lt h)]; exact h
theorem heap_new (w : World) (o : Obj) : (w.alloc o).heap[w.heap.size]? = some o := by show (w.heap.push o)[w.heap.size]? = _; simp
theorem cell_of {w : World} {b o : Nat} {c : Array Value} {t : TypeId} {f : Nat × Nat} (h : w.heap[b]? = some (.cells c t f)) : w.cell? ⟨b, o, none⟩ = c[o]? := by simp [World.cell?, h]
theorem frozen_of {w : World} {b o : Nat} {c : Array Value} {t : TypeId} (h : w.heap[b]? = some (.cells c t (0, 0))) : w.frozen? ⟨b, o, none⟩ = false := by simp [World.frozen?, h]
def Drew (w w' : World) : Prop := ∃ n, w' = w.drewN n
theorem Drew.gb {w w' : World} (h : Drew w w') (row : Option Nat) : w.grownBy w' row := by
  obtain ⟨n, rfl⟩ := h
  exact ⟨rfl, rfl, rfl, Nat.le_refl _, fun _ _ _ => rfl⟩
theorem quietL {f : FuncId} {args : Array Value} {w : World} {k : Nat} {v : Value} (h : Calls Tryz.prog f args (w.drewN k) fun e w' => e = .returned v ∧ w.drewN k = w') :
    Calls Tryz.prog f args (w.drewN k) fun e w' => e = .returned v ∧ ∃ m, w' = w.drewN m := h.mono fun _ _ p => ⟨p.1, k, p.2.symm⟩
theorem bel_gb {B : Nat} {w w1 w2 : World} {k : Nat} (h : Below B w w1) (hB : B ≤ w1.heap.size) (hk : B ≤ k) (g : w1.grownBy w2 (some k)) : Below B w w2 :=
  ⟨g.os.trans h.os, g.tape.trans h.tape, g.output.trans h.output, Nat.le_trans h.size g.size, fun i hi => (g.block i (Nat.lt_of_lt_of_le hi hB) (by simp; omega)).trans (h.block i hi)⟩
theorem bel_gbn {B : Nat} {w w1 w2 : World} (h : Below B w w1) (hB : B ≤ w1.heap.size) (g : w1.grownBy w2 none) : Below B w w2 :=
  ⟨g.os.trans h.os, g.tape.trans h.tape, g.output.trans h.output, Nat.le_trans h.size g.size, fun i hi => (g.block i (Nat.lt_of_lt_of_le hi hB) (by simp)).trans (h.block i hi)⟩
set_option linter.unusedVariables false
set_option linter.unusedSimpArgs false
abbrev Tx := List UInt8
theorem less_eq : ∀ (x y : Tx), Op.bytesLess x y = decide (x < y)
  | [], [] => by simp [Op.bytesLess]
  | _ :: _, [] => by simp [Op.bytesLess]
  | [], _ :: _ => by simp [Op.bytesLess]
  | a :: x, b :: y => by
    rw [Op.bytesLess, less_eq x y]
    simp only [List.cons_lt_cons_iff]
    by_cases h : a < b
    · simp [h]
    · by_cases h2 : a = b
      · simp [h2]
      · simp [h, h2]
theorem lt_no (x : Tx) : ¬ x < x := List.lt_irrefl x
theorem lt_tr {x y z : Tx} (h : x < y) (k : y < z) : x < z := List.lt_trans h k
theorem lt_3 (x y : Tx) : x < y ∨ x = y ∨ y < x := by
  by_cases h1 : x < y
  · exact .inl h1
  · by_cases h2 : y < x
    · exact .inr (.inr h2)
    · exact .inr (.inl (List.le_antisymm (List.not_lt.1 h2) (List.not_lt.1 h1)))
theorem lt_as {x y : Tx} (h : x < y) : ¬ y < x := fun k => lt_no x (lt_tr h k)
theorem lt_ne {x y : Tx} (h : x < y) : x ≠ y := fun e => lt_no x (by rw [← e] at h; exact h)
def SS (l : List Tx) : Prop := l.Pairwise (· < ·)
instance (l : List Tx) : Decidable (SS l) := inferInstanceAs (Decidable (l.Pairwise (· < ·)))
theorem ss_nil : SS [] := List.Pairwise.nil
theorem ss_cons {x : Tx} {l : List Tx} : SS (x :: l) ↔ (∀ y ∈ l, x < y) ∧ SS l := List.pairwise_cons
theorem ss_app {a b : List Tx} : SS (a ++ b) ↔ SS a ∧ SS b ∧ ∀ x ∈ a, ∀ y ∈ b, x < y := List.pairwise_append
theorem ss_nodup {l : List Tx} (h : SS l) : l.Nodup := List.Pairwise.imp (fun k => lt_ne k) h
theorem ss_ext : ∀ {a b : List Tx}, SS a → SS b → (∀ x, x ∈ a ↔ x ∈ b) → a = b
  | [], [], _, _, _ => rfl
  | [], y :: b, _, _, h => by have := (h y).2 (by simp); cases this
  | x :: a, [], _, _, h => by have := (h x).1 (by simp); cases this
  | x :: a, y :: b, ha, hb, h => by
    rw [ss_cons] at ha hb
    have e : x = y := by
      rcases lt_3 x y with k | k | k
      · have := (h x).1 (by simp)
        rcases List.mem_cons.1 this with e | e
        · exact e
        · exact absurd k (lt_as (hb.1 x e))
      · exact k
      · have := (h y).2 (by simp)
        rcases List.mem_cons.1 this with e | e
        · exact e.symm
        · exact absurd k (lt_as (ha.1 y e))
    subst e
    rw [ss_ext ha.2 hb.2 (fun z => ?_)]
    have hz := h z
    simp only [List.mem_cons] at hz
    constructor
    · intro m
      rcases hz.1 (.inr m) with e | e
      · subst e; exact absurd (ha.1 z m) (lt_no z)
      · exact e
    · intro m
      rcases hz.2 (.inr m) with e | e
      · subst e; exact absurd (hb.1 z m) (lt_no z)
      · exact e
def insTx (x : Tx) : List Tx → List Tx
  | [] => [x]
  | y :: l => if y < x then y :: insTx x l else if y = x then y :: l else x :: y :: l
theorem mem_insS {x z : Tx} {l : List Tx} : z ∈ insTx x l ↔ z = x ∨ z ∈ l := by
  induction l with
  | nil => simp [insTx]
  | cons y l ih =>
    unfold insTx
    split
    · simp only [List.mem_cons, ih]; constructor
      · rintro (h | h | h) <;> simp [h]
      · rintro (h | h | h) <;> simp [h]
    · split
      · rename_i h; subst h; simp
      · simp
theorem insS_ss {x : Tx} {l : List Tx} (h : SS l) : SS (insTx x l) := by
  induction l with
  | nil => exact ss_cons.2 ⟨by simp, ss_nil⟩
  | cons y l ih =>
    have h' := ss_cons.1 h
    unfold insTx
    split
    · rename_i k
      refine ss_cons.2 ⟨fun z hz => ?_, ih h'.2⟩
      rcases mem_insS.1 hz with e | e
      · rw [e]; exact k
      · exact h'.1 z e
    · split
      · exact h
      · rename_i k1 k2
        have k : x < y := by
          rcases lt_3 x y with k | k | k
          · exact k
          · exact absurd k.symm k2
          · exact absurd k k1
        refine ss_cons.2 ⟨fun z hz => ?_, h⟩
        rcases List.mem_cons.1 hz with e | e
        · rw [e]; exact k
        · exact lt_tr k (h'.1 z e)
theorem insS_len (x : Tx) (l : List Tx) : (insTx x l).length ≤ l.length + 1 := by
  induction l with
  | nil => simp [insTx]
  | cons y l ih => unfold insTx; split <;> (try split) <;> simp <;> omega
def canon : List Tx → List Tx
  | [] => []
  | x :: l => insTx x (canon l)
theorem mem_canon {z : Tx} {l : List Tx} : z ∈ canon l ↔ z ∈ l := by
  induction l with
  | nil => simp [canon]
  | cons y l ih => rw [canon, mem_insS, ih, List.mem_cons]
theorem canon_ss (l : List Tx) : SS (canon l) := by
  induction l with
  | nil => exact ss_nil
  | cons y l ih => exact insS_ss ih
theorem canon_len (l : List Tx) : (canon l).length ≤ l.length := by
  induction l with
  | nil => simp [canon]
  | cons y l ih => have := insS_len y (canon l); simp only [canon, List.length_cons]; omega
theorem canon_eq {l s : List Tx} (h : SS s) (hm : ∀ x, x ∈ s ↔ x ∈ l) : s = canon l := ss_ext h (canon_ss l) (fun x => by rw [hm, mem_canon])
theorem canon_same {a b : List Tx} (h : ∀ x, x ∈ a ↔ x ∈ b) : canon a = canon b := ss_ext (canon_ss a) (canon_ss b) (fun x => by rw [mem_canon, mem_canon, h])
theorem one_ss (x : Tx) : SS [x] := ss_cons.2 ⟨by simp, ss_nil⟩
def bc (l : List Nat) : Array Value := (l.map fun n : Nat => Value.int .u8 (n : Int)).toArray
def bs (x : Tx) : ByteArray := ⟨x.toArray⟩
def tx (s : ByteArray) : Tx := s.data.toList
theorem tx_bs (x : Tx) : tx (bs x) = x := by simp [tx, bs]
theorem bs_tx (s : ByteArray) : bs (tx s) = s := by unfold tx bs; rw [Array.toArray_toList]
theorem list_bs (x : Tx) : (bs x).toList = x := by rw [Lib.toList_data]; exact tx_bs x
theorem bs_size (x : Tx) : (bs x).size = x.length := by simp [bs, ByteArray.size]
theorem bs_inj {x y : Tx} (h : bs x = bs y) : x = y := by rw [← tx_bs x, ← tx_bs y, h]
theorem less_bs (x y : Tx) : Op.bytesLess (bs x).toList (bs y).toList = decide (x < y) := by rw [less_eq, list_bs, list_bs]
theorem eq_bs (x y : Tx) : ((bs x).toList == (bs y).toList) = decide (x = y) := by
  rw [list_bs, list_bs]
  by_cases h : x = y
  · rw [decide_eq_true h, h]; exact beq_self_eq_true y
  · rw [decide_eq_false h]; exact beq_eq_false_iff_ne.2 h
def tc (x : Tx) : Value := .string (bs x)
def TxAt (w : World) (a : Option Addr) (n c : Nat) (l : List Tx) : Prop :=
  l.length = n ∧ n ≤ c ∧ n ≤ 9223372036854775807 ∧
  (n = 0 ∨ ∃ b off, a = some ⟨b, off, none⟩ ∧ b < w.heap.size ∧ ∀ i, i < n → w.cell? ⟨b, off + i, none⟩ = some (.string (bs (l.getD i []))))
theorem TxAt.nil (w : World) (a : Option Addr) (c : Nat) : TxAt w a 0 c [] := ⟨rfl, Nat.zero_le _, by omega, .inl rfl⟩
theorem TxAt.keep {w w' : World} {a : Option Addr} {n c : Nat} {l : List Tx} (h : TxAt w a n c l) (hb : Below w.heap.size w w') : TxAt w' a n c l := by
  obtain ⟨h1, h2, h3, h5⟩ := h
  refine ⟨h1, h2, h3, ?_⟩
  rcases h5 with h0 | ⟨b, off, rfl, hlt, hc⟩
  · exact .inl h0
  · exact .inr ⟨b, off, rfl, Nat.lt_of_lt_of_le hlt hb.size, fun i hi => by rw [hb.cell hlt]; exact hc i hi⟩
theorem TxAt.at_ {w : World} {a : Option Addr} {n c : Nat} {l : List Tx} (h : TxAt w a n c l) (i : Nat) (hi : i < n) :
    ∃ b off, a = some ⟨b, off, none⟩ ∧ b < w.heap.size ∧ w.cell? ⟨b, off + i, none⟩ = some (.string (bs (l.getD i []))) := by
  obtain ⟨h1, h2, h3, h5⟩ := h
  rcases h5 with h0 | ⟨b, off, rfl, hlt, hc⟩
  · omega
  · exact ⟨b, off, rfl, hlt, hc i hi⟩
theorem TxAt.two {w : World} {a : Option Addr} {n c : Nat} {l : List Tx} (h : TxAt w a n c l) (i j : Nat) (hi : i < n) (hj : j < n) :
    ∃ b off, a = some ⟨b, off, none⟩ ∧ b < w.heap.size ∧ w.cell? ⟨b, off + i, none⟩ = some (.string (bs (l.getD i []))) ∧ w.cell? ⟨b, off + j, none⟩ = some (.string (bs (l.getD j []))) := by
  obtain ⟨h1, h2, h3, h5⟩ := h
  rcases h5 with h0 | ⟨b, off, rfl, hlt, hc⟩
  · omega
  · exact ⟨b, off, rfl, hlt, hc i hi, hc j hj⟩
theorem getD_get {l : List Tx} {i : Nat} (h : i < l.length) : l.getD i [] = l[i] := by rw [List.getD_eq_getElem?_getD, List.getElem?_eq_getElem h]; rfl
def TRow (w : World) (base : Nat) (v : Value) (l : List Tx) : Prop := w.ownsRow base 9 1 v l.length (l.map tc)
theorem TRow.nil (w : World) (base : Nat) : TRow w base (.slice none 0 0) [] := World.ownsRow_nil w base _ _
theorem TRow.shape {w : World} {base : Nat} {v : Value} {l : List Tx} (h : TRow w base v l) : ∃ a cap, v = .slice a l.length cap ∧ TxAt w a l.length cap l := by
  rcases h.2 with ⟨rfl, e⟩ | ⟨g, cap, cur, rfl, hb, hg, hle, hmx, hsz, htk⟩
  · have : l = [] := List.eq_nil_of_length_eq_zero e
    subst this
    exact ⟨none, 0, rfl, TxAt.nil w none 0⟩
  · refine ⟨_, cap, rfl, rfl, hle, by unfold maxLen at hmx; omega, .inr ⟨g, 0, rfl, heap_lt hg, fun i hi => ?_⟩⟩
    have e : (cur.toList.take (l.length * 1))[i]? = (l.map tc)[i]? := by rw [htk]
    rw [List.getElem?_take, if_pos (by omega), Array.getElem?_toList, List.getElem?_map, List.getElem?_eq_getElem hi] at e
    rw [cell_of hg, Nat.zero_add, e, getD_get hi]; rfl
theorem TRow.of {w : World} {base n : Nat} {v : Value} {l : List Tx} (h : w.ownsRow base 9 1 v n (l.map encStr)) : TRow w base v l := by
  have e := h.1
  rw [List.length_map, Nat.mul_one] at e
  subst e
  exact h
theorem info_tx : (Tryz.prog.info? 9).map (fun i => (i.zero, i.size, i.bytes)) = some (some (.string ⟨#[]⟩), 1, 16) := by kernel_rfl
theorem run_append_no {P : Program} {w : World} (base : Nat) (t ty e : TypeId) (i : TypeInfo) (size c : Nat) (ht : P.underlying t = some (.slice e)) (hi : P.info? e = some i)
    (v : Value) (n : Nat) (xs : List Value) (hown : w.ownsRow base e size v n xs) :
    (Builtin.append_ #[t, t] ty #[v, .slice none 0 c]).run P w = .ok v w := by
  rcases hown.2 with ⟨rfl, rfl⟩ | ⟨g, cap, cur, rfl, _, _, hnc, _⟩
  · simp [Builtin.append_, run_underlying ht, sizeOf, typeInfo, hi, Builtin.lenOf, Builtin.firstCells]
  · simp [Builtin.append_, run_underlying ht, sizeOf, typeInfo, hi, Builtin.lenOf, Builtin.firstCells, hnc, storeCells]
end Go.Proofs.YtmifpfojhlmbkaaGreat
