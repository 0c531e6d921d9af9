/-
  Contracts.
-/
import Derived.Test.YtmifpfojhlmbkaaGreatJ0
import Derived.Test.YtmifpfojhlmbkaaGreatJ2
import Derived.Test.YtmifpfojhlmbkaaGreatJ5
import Derived.Laws.StructEq
import Derived.Deep.RegionHeld3
namespace Go.Proofs.YtmifpfojhlmbkaaGreat
open Lib (hid)
set_option maxRecDepth 100000
set_option maxHeartbeats 16000000
open Go.RowKit
set_option linter.unusedVariables false
set_option linter.unusedSimpArgs false
structure Tu (F : Nat → Prop) (w w' : World) : Prop where
  os : w'.os = w.os
  tape : w'.tape = w.tape
  output : w'.output = w.output
  size : w.heap.size ≤ w'.heap.size
  block : ∀ i, i < w.heap.size → ¬ F i → w'.heap[i]? = w.heap[i]?
theorem Tu.refl (F : Nat → Prop) (w : World) : Tu F w w := ⟨rfl, rfl, rfl, Nat.le_refl _, fun _ _ _ => rfl⟩
theorem Tu.of {F : Nat → Prop} {w w' : World} (h : Below w.heap.size w w') : Tu F w w' := ⟨h.os, h.tape, h.output, h.size, fun i hi _ => h.block i hi⟩
theorem Tu.trans {F G : Nat → Prop} {a b c : World} (h : Tu F a b) (k : Tu G b c) (hG : ∀ i, i < a.heap.size → G i → F i) : Tu F a c :=
  ⟨k.os.trans h.os, k.tape.trans h.tape, k.output.trans h.output, Nat.le_trans h.size k.size,
   fun i hi hf => (k.block i (Nat.lt_of_lt_of_le hi h.size) (fun g => hf (hG i hi g))).trans (h.block i hi hf)⟩
theorem Tu.mono {F G : Nat → Prop} {a b : World} (h : Tu F a b) (hG : ∀ i, i < a.heap.size → F i → G i) : Tu G a b :=
  ⟨h.os, h.tape, h.output, h.size, fun i hi g => h.block i hi (fun f => g (hG i hi f))⟩
theorem Tu.thenB {F : Nat → Prop} {a b c : World} (h : Tu F a b) (k : Below b.heap.size b c) : Tu F a c := h.trans (G := fun _ => False) (.of k) (fun _ _ g => g.elim)
theorem Tu.afterB {F : Nat → Prop} {a b c : World} (k : Below a.heap.size a b) (h : Tu F b c) : Tu F a c := (Tu.of (F := F) k).trans h (fun _ _ g => g)
theorem Tu.gb {F : Nat → Prop} {w w' : World} {b : Nat} (g : w.grownBy w' (some b)) (hb : F b) : Tu F w w' :=
  ⟨g.os, g.tape, g.output, g.size, fun i hi hf => g.block i hi (fun e => hf (by cases e; exact hb))⟩
theorem Tu.gbo {F : Nat → Prop} {w w' : World} {row : Option Nat} (g : w.grownBy w' row) (hb : ∀ b, row = some b → F b) : Tu F w w' :=
  ⟨g.os, g.tape, g.output, g.size, fun i hi hf => g.block i hi (fun e => hf (hb i e.symm))⟩
theorem Tu.drew (F : Nat → Prop) (w : World) : Tu F w w.drew := ⟨rfl, rfl, rfl, Nat.le_refl _, fun _ _ _ => rfl⟩
theorem Tu.below {F : Nat → Prop} {B : Nat} {w0 w w' : World} (hb : Below B w0 w) (hB : B ≤ w.heap.size) (h : Tu F w w') (hF : ∀ i, i < B → ¬ F i) : Below B w0 w' :=
  ⟨h.os.trans hb.os, h.tape.trans hb.tape, h.output.trans hb.output, Nat.le_trans hb.size h.size, fun i hi => (h.block i (by omega) (hF i hi)).trans (hb.block i hi)⟩
theorem Tu.cell {F : Nat → Prop} {w w' : World} (h : Tu F w w') {a : Addr} {v : Value} (hc : w.cell? a = some v) (ha : ¬ F a.block) : w'.cell? a = some v := by
  rw [World.cell?_of_block (w := w) (h.block a.block (World.block_lt_of_cell? w a hc) ha)]; exact hc
theorem MapAt.tu {F : Nat → Prop} {w w' : World} {b : Nat} {L : List (Tx × Value)} (h : MapAt w b L) (t : Tu F w w') (hb : ¬ F b) : MapAt w' b L := h.same (t.block b h.lt hb)
def ruC (r : Ru) : List Value := [.string (bs r.src), .string (bs r.dst), .int .i64 r.kind, .int .i64 r.size, .int .i64 r.align]
def ruV (r : Ru) : Value := .agg #[.string (bs r.src), .string (bs r.dst), .int .i64 r.kind, .int .i64 r.size, .int .i64 r.align]
def ruCs (l : List Ru) : List Value := l.flatMap ruC
theorem ruCs_nil : ruCs [] = [] := rfl
theorem ruCs_cons (x : Ru) (r : List Ru) : ruCs (x :: r) = ruC x ++ ruCs r := by simp [ruCs]
theorem ruCs_app (a b : List Ru) : ruCs (a ++ b) = ruCs a ++ ruCs b := by simp [ruCs]
theorem ruCs_len (z : List Ru) : (ruCs z).length = z.length * 5 := by
  induction z with
  | nil => rfl
  | cons x r ih => rw [ruCs_cons, List.length_append, ih, List.length_cons, show (ruC x).length = 5 from rfl]; omega
theorem ruCs_take (z : List Ru) (k : Nat) : ruCs (z.take k) = (ruCs z).take (k * 5) := by
  induction z generalizing k with
  | nil => simp [ruCs]
  | cons x r ih =>
    cases k with
    | zero => simp [ruCs]
    | succ k =>
      rw [List.take_succ_cons, ruCs_cons, ruCs_cons, ih, List.take_append, List.take_of_length_le (show (ruC x).length ≤ (k + 1) * 5 by show 5 ≤ _; omega)]
      congr 2
      show k * 5 = (k + 1) * 5 - 5
      omega
theorem ruCs_drop (z : List Ru) (k : Nat) : ruCs (z.drop k) = (ruCs z).drop (k * 5) := by
  induction z generalizing k with
  | nil => simp [ruCs]
  | cons x r ih =>
    cases k with
    | zero => simp
    | succ k =>
      rw [List.drop_succ_cons, ruCs_cons, ih, List.drop_append, List.drop_of_length_le (show (ruC x).length ≤ (k + 1) * 5 by show 5 ≤ _; omega), List.nil_append]
      congr 1
      show k * 5 = (k + 1) * 5 - 5
      omega
def uA (l : List Ru) (i : Nat) : Ru := l.getD i default
theorem uA_get {l : List Ru} {i : Nat} (h : i < l.length) : uA l i = l[i] := by unfold uA; rw [List.getD_eq_getElem?_getD, List.getElem?_eq_getElem h]; rfl
theorem uA_mem {l : List Ru} {i : Nat} (h : i < l.length) : uA l i ∈ l := by rw [uA_get h]; exact List.getElem_mem h
theorem uA_ex {l : List Ru} {x : Ru} (h : x ∈ l) : ∃ i, i < l.length ∧ x = uA l i := by
  obtain ⟨i, hi, e⟩ := List.getElem_of_mem h
  exact ⟨i, hi, by rw [uA_get hi, e]⟩
theorem ruCs_get (z : List Ru) (j t : Nat) (h : j < z.length) (ht : t < 5) : (ruCs z)[j * 5 + t]? = (ruC (uA z j))[t]? := by
  induction z generalizing j with
  | nil => simp at h
  | cons x r ih =>
    rw [ruCs_cons]
    cases j with
    | zero => rw [List.getElem?_append_left (by show 0 * 5 + t < 5; omega), Nat.zero_mul, Nat.zero_add]; rfl
    | succ j =>
      rw [List.getElem?_append_right (by show 5 ≤ _; omega), show (j + 1) * 5 + t - (ruC x).length = j * 5 + t from by show (j + 1) * 5 + t - 5 = _; omega, ih j (by simpa using h)]
      rfl
theorem ruC_one (r : Ru) : ∀ u ∈ ruC r, u.oneCell' = true := by
  intro u hu
  simp only [ruC, List.mem_cons, List.not_mem_nil, or_false] at hu
  rcases hu with rfl | rfl | rfl | rfl | rfl <;> rfl
theorem ruCs_one (z : List Ru) : ∀ u ∈ ruCs z, u.oneCell' = true := by
  intro u hu
  obtain ⟨e, _, h⟩ := List.mem_flatMap.1 hu
  exact ruC_one e u h
structure U5 (w : World) (b o : Nat) (r : Ru) : Prop where
  x0 : w.cell? ⟨b, o, none⟩ = some (.string (bs r.src))
  x1 : w.cell? ⟨b, o + 1, none⟩ = some (.string (bs r.dst))
  x2 : w.cell? ⟨b, o + 2, none⟩ = some (.int .i64 r.kind)
  x3 : w.cell? ⟨b, o + 3, none⟩ = some (.int .i64 r.size)
  x4 : w.cell? ⟨b, o + 4, none⟩ = some (.int .i64 r.align)
theorem U5.of {w : World} {b o : Nat} {r : Ru} (h : ∀ j v, (ruC r)[j]? = some v → w.cell? ⟨b, o + j, none⟩ = some v) : U5 w b o r :=
  ⟨h 0 _ rfl, h 1 _ rfl, h 2 _ rfl, h 3 _ rfl, h 4 _ rfl⟩
theorem U5.to {w : World} {b o : Nat} {r : Ru} (h : U5 w b o r) : ∀ j v, (ruC r)[j]? = some v → w.cell? ⟨b, o + j, none⟩ = some v := by
  intro j v hj
  match j, hj with
  | 0, hj => cases hj; exact h.x0
  | 1, hj => cases hj; exact h.x1
  | 2, hj => cases hj; exact h.x2
  | 3, hj => cases hj; exact h.x3
  | 4, hj => cases hj; exact h.x4
  | j + 5, hj => simp [ruC] at hj
def RuAt (w : World) (a : Option Addr) (n c : Nat) (l : List Ru) : Prop :=
  l.length = n ∧ n ≤ c ∧ n ≤ 9223372036854775807 ∧
  (n = 0 ∨ ∃ b off, a = some ⟨b, off, none⟩ ∧ b < w.heap.size ∧ ∀ j v, (ruCs l)[j]? = some v → w.cell? ⟨b, off + j, none⟩ = some v)
theorem RuAt.nil (w : World) (a : Option Addr) (c : Nat) : RuAt w a 0 c [] := ⟨rfl, Nat.zero_le _, by omega, .inl rfl⟩
theorem RuAt.tu {F : Nat → Prop} {w w' : World} {a : Option Addr} {n c : Nat} {l : List Ru} (h : RuAt w a n c l) (t : Tu F w w') (hb : ∀ ad, a = some ad → ¬ F ad.block) : RuAt w' a n c l := by
  obtain ⟨h1, h2, h3, h5⟩ := h
  refine ⟨h1, h2, h3, ?_⟩
  rcases h5 with h0 | ⟨b, off, rfl, hlt, hc⟩
  · exact .inl h0
  · exact .inr ⟨b, off, rfl, Nat.lt_of_lt_of_le hlt t.size, fun j v hj => t.cell (hc j v hj) (show ¬ F b from hb ⟨b, off, .none⟩ rfl)⟩
theorem RuAt.keep {w w' : World} {a : Option Addr} {n c : Nat} {l : List Ru} (h : RuAt w a n c l) (k : Below w.heap.size w w') : RuAt w' a n c l := h.tu (F := fun _ => False) (.of k) (fun _ _ f => f)
theorem RuAt.at_ {w : World} {a : Option Addr} {n c : Nat} {l : List Ru} (h : RuAt w a n c l) (i : Nat) (hi : i < n) :
    ∃ b off, a = some ⟨b, off, none⟩ ∧ b < w.heap.size ∧ U5 w b (off + i * 5) (uA l i) := by
  obtain ⟨h1, h2, h3, h5⟩ := h
  rcases h5 with h0 | ⟨b, off, rfl, hlt, hc⟩
  · omega
  · refine ⟨b, off, rfl, hlt, .of fun j v hj => ?_⟩
    have hj5 : j < 5 := (List.getElem?_eq_some_iff.1 hj).1
    rw [Nat.add_assoc]
    exact hc _ v (by rw [ruCs_get l i j (by omega) hj5]; exact hj)
theorem RuAt.src {w : World} {a : Option Addr} {n c : Nat} {l : List Ru} (h : RuAt w a n c l) (ad : Addr) (e : a = some ad) : ∀ j u, (ruCs l)[j]? = some u → w.cell? (ad.add j) = some u := by
  intro j u hj
  rcases h.2.2.2 with h0 | ⟨b, off, e', hlt, hc⟩
  · have : l = [] := List.eq_nil_of_length_eq_zero (h.1.trans h0)
    subst this; simp [ruCs] at hj
  · rw [e] at e'
    simp only [Option.some.injEq] at e'
    subst e'
    rw [show Addr.add ⟨b, off, none⟩ j = ⟨b, off + j, none⟩ from by simp [Addr.add]]
    exact hc j u hj
theorem RuAt.nothing {w : World} {n c : Nat} {l : List Ru} (h : RuAt w none n c l) : n = 0 ∧ l = [] := by
  rcases h.2.2.2 with e | ⟨b, off, e, _⟩
  · exact ⟨e, List.eq_nil_of_length_eq_zero (h.1.trans e)⟩
  · cases e
def BoxU (τ : TypeId) (w : World) (B : Nat) (r : Ru) : Prop := w.heap[B]? = some (.cells #[.string (bs r.src), .string (bs r.dst), .int .i64 r.kind, .int .i64 r.size, .int .i64 r.align] τ (0, 0))
theorem BoxU.u5 {τ : TypeId} {w : World} {B : Nat} {r : Ru} (h : BoxU τ w B r) : U5 w B 0 r := .of fun j v hj => by
  rw [cell_of h, Nat.zero_add]
  show ((ruC r).toArray)[j]? = some v
  simpa using hj
theorem BoxU.x0 {τ : TypeId} {w : World} {B : Nat} {r : Ru} (h : BoxU τ w B r) : w.cell? ⟨B, 0, none⟩ = some (.string (bs r.src)) := h.u5.x0
theorem BoxU.x1 {τ : TypeId} {w : World} {B : Nat} {r : Ru} (h : BoxU τ w B r) : w.cell? ⟨B, 1, none⟩ = some (.string (bs r.dst)) := h.u5.x1
theorem BoxU.x2 {τ : TypeId} {w : World} {B : Nat} {r : Ru} (h : BoxU τ w B r) : w.cell? ⟨B, 2, none⟩ = some (.int .i64 r.kind) := h.u5.x2
theorem BoxU.x3 {τ : TypeId} {w : World} {B : Nat} {r : Ru} (h : BoxU τ w B r) : w.cell? ⟨B, 3, none⟩ = some (.int .i64 r.size) := h.u5.x3
theorem BoxU.x4 {τ : TypeId} {w : World} {B : Nat} {r : Ru} (h : BoxU τ w B r) : w.cell? ⟨B, 4, none⟩ = some (.int .i64 r.align) := h.u5.x4
theorem BoxU.tu {τ : TypeId} {F : Nat → Prop} {w w' : World} {B : Nat} {r : Ru} (h : BoxU τ w B r) (t : Tu F w w') (hb : ¬ F B) : BoxU τ w' B r := (t.block B (heap_lt h) hb).trans h
theorem BoxU.keep {τ : TypeId} {w w' : World} {B : Nat} {r : Ru} (h : BoxU τ w B r) (k : Below w.heap.size w w') : BoxU τ w' B r := (k.block B (heap_lt h)).trans h
theorem BoxU.new (τ : TypeId) (w : World) (r : Ru) : BoxU τ (w.alloc (.cells #[.string (bs r.src), .string (bs r.dst), .int .i64 r.kind, .int .i64 r.size, .int .i64 r.align] τ)) w.heap.size r := heap_new w _
theorem BoxU.lt {τ : TypeId} {w : World} {B : Nat} {r : Ru} (h : BoxU τ w B r) : B < w.heap.size := heap_lt h
def URow (τ : TypeId) (w : World) (base : Nat) (v : Value) (l : List Ru) : Prop := w.ownsRow base τ 5 v l.length (ruCs l)
theorem URow.nil (τ : TypeId) (w : World) (base : Nat) : URow τ w base (.slice none 0 0) [] := World.ownsRow_nil w base _ _
theorem URow.shape {τ : TypeId} {w : World} {base : Nat} {v : Value} {l : List Ru} (h : URow τ w base v l) : ∃ a cap, v = .slice a l.length cap ∧ RuAt w a l.length cap l ∧ (∀ ad, a = some ad → v.ownBlock = some ad.block) := by
  rcases h.2 with ⟨rfl, e⟩ | ⟨g, cap, cur, rfl, hb, hg, hle, hmx, hsz, htk⟩
  · have : l = [] := List.eq_nil_of_length_eq_zero e
    subst this
    exact ⟨none, 0, rfl, RuAt.nil w none 0, fun _ e => by cases e⟩
  · have hcell : ∀ j u, (ruCs l)[j]? = some u → w.cell? ⟨g, j, none⟩ = some u := fun j u hu => by
      have hjl : j < l.length * 5 := by have := (List.getElem?_eq_some_iff.1 hu).1; rw [ruCs_len] at this; exact this
      rw [cell_of hg]
      rw [← htk, List.getElem?_take, if_pos hjl, Array.getElem?_toList] at hu
      exact hu
    exact ⟨_, cap, rfl, ⟨rfl, hle, by unfold maxLen at hmx; omega, .inr ⟨g, 0, rfl, heap_lt hg, fun j u hu => by rw [Nat.zero_add]; exact hcell j u hu⟩⟩, fun ad e => by cases e; rfl⟩
theorem URow.kept {τ : TypeId} {w w' : World} {base : Nat} {v : Value} {l : List Ru} (h : URow τ w base v l) (hb : ∀ g, v.ownBlock = some g → w'.heap[g]? = w.heap[g]?) : URow τ w' base v l := by
  refine ⟨h.1, ?_⟩
  rcases h.2 with e | ⟨g, cap, cur, rfl, hbg, hg, r⟩
  · exact .inl e
  · exact .inr ⟨g, cap, cur, rfl, hbg, by rw [hb g rfl]; exact hg, r⟩
theorem URow.lt {τ : TypeId} {w : World} {base : Nat} {v : Value} {l : List Ru} (h : URow τ w base v l) {g : Nat} (hg : v.ownBlock = some g) : g < w.heap.size := (World.ownsRow.lt h g hg).2
theorem URow.keep {τ : TypeId} {w w' : World} {base : Nat} {v : Value} {l : List Ru} (h : URow τ w base v l) (hb : Below w.heap.size w w') : URow τ w' base v l := h.kept fun g hg => hb.block g (h.lt hg)
theorem URow.mono {τ : TypeId} {w : World} {base base' : Nat} {v : Value} {l : List Ru} (h : URow τ w base v l) (hb : base' ≤ base) : URow τ w base' v l := by
  refine ⟨h.1, ?_⟩
  rcases h.2 with e | ⟨g, cap, cur, rfl, hbg, r⟩
  · exact .inl e
  · exact .inr ⟨g, cap, cur, rfl, by omega, r⟩
theorem URow.base {τ : TypeId} {w : World} {base : Nat} {v : Value} {l : List Ru} (h : URow τ w base v l) {g : Nat} (hg : v.ownBlock = some g) : base ≤ g := (World.ownsRow.lt h g hg).1
theorem URow.bel {τ : TypeId} {w w' w0 : World} {B base : Nat} {v : Value} {l : List Ru} (hb : Below B w0 w) (hs : B ≤ w.heap.size) (hown : URow τ w base v l) (hB : B ≤ base) (g : w.grownBy w' v.ownBlock) : Below B w0 w' :=
  hb.grown g hs (fun k hk => Nat.le_trans hB (World.ownsRow.lt hown k hk).1)
theorem URow.solid {τ : TypeId} {w : World} {base : Nat} {v : Value} {l : List Ru} (h : URow τ w base v l) (hl : l ≠ []) : ∃ g cap cur, v = .slice (some ⟨g, 0, none⟩) l.length cap ∧ base ≤ g ∧ w.heap[g]? = some (.cells cur τ (0, 0)) ∧ l.length ≤ cap ∧ cap ≤ maxLen ∧ cur.size = cap * 5 ∧ cur.toList.take (l.length * 5) = ruCs l := by
  rcases h.2 with ⟨_, e⟩ | k
  · exact absurd (List.eq_nil_of_length_eq_zero e) hl
  · exact k
theorem ru_lit {τ : TypeId} {w : World} {b : Nat} {l : List Ru} (h : w.heap[b]? = some (.cells (ruCs l).toArray τ (0, 0))) (hn : l.length ≤ 1000) : RuAt w (some ⟨b, 0, none⟩) l.length l.length l :=
  ⟨rfl, Nat.le_refl _, by omega, .inr ⟨b, 0, rfl, heap_lt h, fun j v hj => by rw [Nat.zero_add, cell_of h]; simpa using hj⟩⟩
theorem RuAt.one (τ : TypeId) (w : World) (r : Ru) : RuAt (w.alloc (.cells #[.string (bs r.src), .string (bs r.dst), .int .i64 r.kind, .int .i64 r.size, .int .i64 r.align] τ)) (some ⟨w.heap.size, 0, .none⟩) 1 1 [r] :=
  ru_lit (l := [r]) (heap_new w _) (by simp)
theorem info_gu : (Tryz.prog.info? 32).map (fun i => (i.zero, i.size, i.bytes)) = some (some (.agg #[.string ⟨#[]⟩, .string ⟨#[]⟩, .int .i64 0, .int .i64 0, .int .i64 0]), 5, 56) := by kernel_rfl
theorem size_gu (W : World) : (sizeOf (Tryz.prog.elem 38)).run Tryz.prog W = .ok 5 W := by kernel_rfl
theorem wpList_append_gu {w : World} {ops : Array Oper} {rest : List Oper} {o : Oper} {a : Act} {Q : Exit → Act → World → Prop} (hw : Region.wanted o (yielded ops a.tmps) = true) (s x : Operand)
    (ho : o.op = .call { callee := .builtin .append, args := #[s, x], argTypes := #[38, 38] })
    (base : Nat) (v : Value) (l : List Ru) (hs : a.eval s = v) (hown : URow 32 w base v l)
    (ax : Option Addr) (m c : Nat) (k : List Ru) (hx : a.eval x = .slice ax m c) (hl : RuAt w ax m c k) (hb : l.length + m ≤ 1048576) (hbase : base ≤ w.heap.size)
    (h : ∀ v' w', URow 32 w' base v' (l ++ k) → w.grownBy w' v.ownBlock → wpList Tryz.prog ops Q rest (a.put o.dst v') w') : wpList Tryz.prog ops Q (o :: rest) a w := by
  obtain ⟨i0, hi, hz0, hz1, hz2⟩ := info_parts info_gu
  refine wpList_step fun K hK => ?_
  rw [if_pos hw]
  have hm := hl.1
  cases ax with
  | none =>
    obtain ⟨h0, e0⟩ := hl.nothing
    subst h0
    subst e0
    have hrun := run_append_no (P := Tryz.prog) (w := w) base 38 o.type 32 i0 5 c Tryz.underlying38 hi v l.length _ hown
    unfold Oper.wp
    simp [execOp, ho, resolve, invoke, builtin, hs, hx, hrun, Result.andThen]
    refine hK _ _ (h v w ?_ (gb_refl _ _))
    simpa using hown
  | some ad =>
    refine wp_append_own w s x 38 ho base 32 i0 _ 5 56 Tryz.underlying38 hi hz0 hz1 hz2 rfl (by omega) v l.length _ hs hown ad m c (ruCs k) hx (by rw [ruCs_len, hm]) (hl.src ad rfl) (ruCs_one k) (by unfold maxLen; omega) (by omega) hbase ?_
    intro v' w' h2 h3 _
    refine hK _ _ (h v' w' ?_ h3)
    unfold URow
    rw [List.length_append, ruCs_app, hm]; exact h2
theorem eqIn_gu (w : World) (a b : Ru) : (Op.equalIn 10000 32 (ruV a) (ruV b)).run Tryz.prog w = .ok (decide (a = b)) w := by
  obtain ⟨a0, a1, a2, a3, a4⟩ := a
  obtain ⟨b0, b1, b2, b3, b4⟩ := b
  show (Op.equalIn 10000 32 (.agg #[.string (bs a0), .string (bs a1), .int .i64 a2, .int .i64 a3, .int .i64 a4]) (.agg #[.string (bs b0), .string (bs b1), .int .i64 b2, .int .i64 b3, .int .i64 b4])).run Tryz.prog w = _
  rw [run_equalIn_struct (P := Tryz.prog) w 9999 32 _ _ (by kernel_rfl) (by kernel_rfl)]
  have hf : (Tryz.prog.fieldsOf 32).toList = [(Tryz.prog.fieldsOf 32)[0]!, (Tryz.prog.fieldsOf 32)[1]!, (Tryz.prog.fieldsOf 32)[2]!, (Tryz.prog.fieldsOf 32)[3]!, (Tryz.prog.fieldsOf 32)[4]!] := by kernel_rfl
  have n0 : ((Tryz.prog.fieldsOf 32)[0]!).name ≠ "_" := by rw [show ((Tryz.prog.fieldsOf 32)[0]!).name = "Src" from by kernel_rfl]; decide
  have t0 : ((Tryz.prog.fieldsOf 32)[0]!).type = 9 := by kernel_rfl
  have p0 : ∀ (x0 x1 : Tx) (x2 x3 x4 : Int) (W : World), (part 9 #[.string (bs x0), .string (bs x1), .int .i64 x2, .int .i64 x3, .int .i64 x4] ((Tryz.prog.fieldsOf 32)[0]!).offset).run Tryz.prog W = .ok (.string (bs x0)) W := fun x0 x1 x2 x3 x4 W => by kernel_rfl
  have n1 : ((Tryz.prog.fieldsOf 32)[1]!).name ≠ "_" := by rw [show ((Tryz.prog.fieldsOf 32)[1]!).name = "Dst" from by kernel_rfl]; decide
  have t1 : ((Tryz.prog.fieldsOf 32)[1]!).type = 9 := by kernel_rfl
  have p1 : ∀ (x0 x1 : Tx) (x2 x3 x4 : Int) (W : World), (part 9 #[.string (bs x0), .string (bs x1), .int .i64 x2, .int .i64 x3, .int .i64 x4] ((Tryz.prog.fieldsOf 32)[1]!).offset).run Tryz.prog W = .ok (.string (bs x1)) W := fun x0 x1 x2 x3 x4 W => by kernel_rfl
  have n2 : ((Tryz.prog.fieldsOf 32)[2]!).name ≠ "_" := by rw [show ((Tryz.prog.fieldsOf 32)[2]!).name = "Kind" from by kernel_rfl]; decide
  have t2 : ((Tryz.prog.fieldsOf 32)[2]!).type = 3 := by kernel_rfl
  have p2 : ∀ (x0 x1 : Tx) (x2 x3 x4 : Int) (W : World), (part 3 #[.string (bs x0), .string (bs x1), .int .i64 x2, .int .i64 x3, .int .i64 x4] ((Tryz.prog.fieldsOf 32)[2]!).offset).run Tryz.prog W = .ok (.int .i64 x2) W := fun x0 x1 x2 x3 x4 W => by kernel_rfl
  have n3 : ((Tryz.prog.fieldsOf 32)[3]!).name ≠ "_" := by rw [show ((Tryz.prog.fieldsOf 32)[3]!).name = "Size" from by kernel_rfl]; decide
  have t3 : ((Tryz.prog.fieldsOf 32)[3]!).type = 3 := by kernel_rfl
  have p3 : ∀ (x0 x1 : Tx) (x2 x3 x4 : Int) (W : World), (part 3 #[.string (bs x0), .string (bs x1), .int .i64 x2, .int .i64 x3, .int .i64 x4] ((Tryz.prog.fieldsOf 32)[3]!).offset).run Tryz.prog W = .ok (.int .i64 x3) W := fun x0 x1 x2 x3 x4 W => by kernel_rfl
  have n4 : ((Tryz.prog.fieldsOf 32)[4]!).name ≠ "_" := by rw [show ((Tryz.prog.fieldsOf 32)[4]!).name = "Align" from by kernel_rfl]; decide
  have t4 : ((Tryz.prog.fieldsOf 32)[4]!).type = 3 := by kernel_rfl
  have p4 : ∀ (x0 x1 : Tx) (x2 x3 x4 : Int) (W : World), (part 3 #[.string (bs x0), .string (bs x1), .int .i64 x2, .int .i64 x3, .int .i64 x4] ((Tryz.prog.fieldsOf 32)[4]!).offset).run Tryz.prog W = .ok (.int .i64 x4) W := fun x0 x1 x2 x3 x4 W => by kernel_rfl
  have q : ∀ (x y : Tx) (W : World), (Op.equalIn 9999 9 (.string (bs x)) (.string (bs y))).run Tryz.prog W = .ok (decide (x = y)) W := fun x y W => by
    rw [show (9999 : Nat) = 9998 + 1 from rfl, run_equalIn_string (P := Tryz.prog) W 9998 9 _ _ Tryz.underlying9, eq_bs]
  have qi : ∀ (x y : Int) (W : World), (Op.equalIn 9999 3 (.int .i64 x) (.int .i64 y)).run Tryz.prog W = .ok (decide (x = y)) W := fun x y W => by
    rw [show (9999 : Nat) = 9998 + 1 from rfl, run_equalIn_int (P := Tryz.prog) W 9998 3 _ _ x y Tryz.underlying3]; rfl
  have hd : decide ((⟨a0, a1, a2, a3, a4⟩ : Ru) = ⟨b0, b1, b2, b3, b4⟩) = (decide (a0 = b0) && (decide (a1 = b1) && (decide (a2 = b2) && (decide (a3 = b3) && decide (a4 = b4))))) := by
    rw [← Bool.decide_and, ← Bool.decide_and, ← Bool.decide_and, ← Bool.decide_and]
    exact decide_eq_decide.2 ru_iff
  have q0 := q a0 b0
  have q1 := q a1 b1
  have q2 := qi a2 b2
  have q3 := qi a3 b3
  have q4 := qi a4 b4
  rw [hf, hd]
  clear hf hd
  generalize decide (a0 = b0) = e0 at *
  generalize decide (a1 = b1) = e1 at *
  generalize decide (a2 = b2) = e2 at *
  generalize decide (a3 = b3) = e3 at *
  generalize decide (a4 = b4) = e4 at *
  simp only [Op.eqFields, n0, n1, n2, n3, n4, ne_eq, not_false_eq_true, if_true, t0, t1, t2, t3, t4, Sem.run_bind, p0, p1, p2, p3, p4, q0, q1, q2, q3, q4, Result.andThen_ok]
  cases e0
  · simp [Sem.run_ite]
  cases e1
  · simp only [Sem.run_ite, Sem.run_bind, Sem.run_pure, p1, q1, Result.andThen_ok, Bool.not_true, Bool.not_false, Bool.false_eq_true, if_false, if_true, Bool.true_and, Bool.false_and]
  cases e2
  · simp only [Sem.run_ite, Sem.run_bind, Sem.run_pure, p1, q1, p2, q2, Result.andThen_ok, Bool.not_true, Bool.not_false, Bool.false_eq_true, if_false, if_true, Bool.true_and, Bool.false_and]
  cases e3
  · simp only [Sem.run_ite, Sem.run_bind, Sem.run_pure, p1, q1, p2, q2, p3, q3, Result.andThen_ok, Bool.not_true, Bool.not_false, Bool.false_eq_true, if_false, if_true, Bool.true_and, Bool.false_and]
  cases e4 <;> simp only [Sem.run_ite, Sem.run_bind, Sem.run_pure, p1, q1, p2, q2, p3, q3, p4, q4, Result.andThen_ok, Bool.not_true, Bool.not_false, Bool.false_eq_true, if_false, if_true, Bool.true_and, Bool.false_and]
theorem run_eq_gu (w : World) (a b : Ru) : (binOp .eql 32 (ruV a) (ruV b)).run Tryz.prog w = .ok (.bool (decide (a = b))) w := by
  rw [ruV, ruV, run_eql_struct, ← ruV, ← ruV, eqIn_gu]; rfl
end Go.Proofs.YtmifpfojhlmbkaaGreat
