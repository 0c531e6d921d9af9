/-
  Worlds in which maps have turned; how lists of labels lie in memory.
-/
import Derived.Test.YtifjbbiphekmmaaGreatDoorIMath
import Derived.Deep.RegionHeld3
import Derived.Laws.StructEq
namespace Go.Proofs.YtifjbbiphekmmaaGreatDoor
open Go.RowKit
set_option linter.unusedVariables false
set_option linter.unusedSimpArgs false

/-- Of what was there, only blocks of F have turned, and no rows of cells. -/
structure Trn (F : Nat → Prop) (w w' : World) : Prop where
  os : w'.os = w.os
  tape : w'.tape = w.tape
  output : w'.output = w.output
  size : w.heap.size ≤ w'.heap.size
  block : ∀ i, i < w.heap.size → ¬ F i → w'.heap[i]? = w.heap[i]?
  cells : ∀ (i : Nat) (c : Array Value) (t : TypeId) (f : Nat × Nat), w.heap[i]? = some (.cells c t f) → w'.heap[i]? = some (.cells c t f)
theorem Trn.refl (F : Nat → Prop) (w : World) : Trn F w w := ⟨rfl, rfl, rfl, Nat.le_refl _, fun _ _ _ => rfl, fun _ _ _ _ h => h⟩
theorem Trn.of {F : Nat → Prop} {w w' : World} (h : Below w.heap.size w w') : Trn F w w' :=
  ⟨h.os, h.tape, h.output, h.size, fun i hi _ => h.block i hi, fun i c t f e => (h.block i (heap_lt e)).trans e⟩
theorem Trn.trans {F G : Nat → Prop} {a b c : World} (h : Trn F a b) (k : Trn G b c) (hG : ∀ i, i < a.heap.size → G i → F i) : Trn F a c :=
  ⟨k.os.trans h.os, k.tape.trans h.tape, k.output.trans h.output, Nat.le_trans h.size k.size,
   fun i hi hf => (k.block i (Nat.lt_of_lt_of_le hi h.size) (fun g => hf (hG i hi g))).trans (h.block i hi hf), fun i c t f e => k.cells i c t f (h.cells i c t f e)⟩
theorem Trn.mono {F G : Nat → Prop} {a b : World} (h : Trn F a b) (hG : ∀ i, i < a.heap.size → F i → G i) : Trn G a b :=
  ⟨h.os, h.tape, h.output, h.size, fun i hi g => h.block i hi (fun f => g (hG i hi f)), h.cells⟩
theorem Trn.thenB {F : Nat → Prop} {a b c : World} (h : Trn F a b) (k : Below b.heap.size b c) : Trn F a c := h.trans (G := fun _ => False) (.of k) (fun _ _ g => g.elim)
/-- A map that has turned. -/
theorem Trn.map {F : Nat → Prop} {w w' : World} {b : Nat} (g : w.grownBy w' (some b)) (hb : F b) (hm : ∃ es c, w.heap[b]? = some (.map es c)) : Trn F w w' :=
  ⟨g.os, g.tape, g.output, g.size, fun i hi hf => g.block i hi (fun e => hf (by cases e; exact hb)), fun i c t f e => (g.block i (heap_lt e) (fun e' => by
    cases e'
    obtain ⟨es, cl, hm⟩ := hm
    rw [hm] at e; cases e)).trans e⟩
theorem Trn.drew (F : Nat → Prop) (w : World) : Trn F w w.drew := ⟨rfl, rfl, rfl, Nat.le_refl _, fun _ _ _ => rfl, fun _ _ _ _ h => h⟩
theorem Trn.cell {F : Nat → Prop} {w w' : World} (h : Trn F w w') {a : Addr} {v : Value} (hc : w.cell? a = some v) : w'.cell? a = some v := by
  unfold World.cell? at hc
  split at hc
  · rename_i c t f e
    unfold World.cell?
    rw [h.cells _ _ _ _ e]; exact hc
  · cases hc
theorem Trn.below {F : Nat → Prop} {B : Nat} {w0 w w' : World} (hb : Below B w0 w) (hB : B ≤ w.heap.size) (h : Trn F w w') (hF : ∀ i, i < B → ¬ F i) : Below B w0 w' :=
  ⟨h.os.trans hb.os, h.tape.trans hb.tape, h.output.trans hb.output, Nat.le_trans hb.size h.size, fun i hi => (h.block i (by omega) (hF i hi)).trans (hb.block i hi)⟩
theorem TxAt.trn {F : Nat → Prop} {w w' : World} (t : Trn F w w') {a : Option Addr} {n c : Nat} {l : List Tx} (h : TxAt w a n c l) : TxAt w' a n c l := by
  obtain ⟨h1, h2, h3, h5⟩ := h
  refine ⟨h1, h2, h3, ?_⟩
  rcases h5 with h0 | ⟨b, off, rfl, hlt, hc⟩
  · exact .inl h0
  · exact .inr ⟨b, off, rfl, Nat.lt_of_lt_of_le hlt t.size, fun i hi => t.cell (hc i hi)⟩

/-! Labels in memory. -/
def lN (l : List Lb) (i : Nat) : Tx := (l.getD i ([], [])).1
def lV (l : List Lb) (i : Nat) : Tx := (l.getD i ([], [])).2
theorem lb_get {l : List Lb} {i : Nat} (h : i < l.length) : l[i] = (lN l i, lV l i) := by unfold lN lV; rw [List.getD_eq_getElem?_getD, List.getElem?_eq_getElem h]; rfl
theorem lb_mem {l : List Lb} {i : Nat} (h : i < l.length) : (lN l i, lV l i) ∈ l := by rw [← lb_get h]; exact List.getElem_mem h
theorem lb_ex {l : List Lb} {x : Lb} (h : x ∈ l) : ∃ i, i < l.length ∧ x = (lN l i, lV l i) := by
  obtain ⟨i, hi, e⟩ := List.getElem_of_mem h
  exact ⟨i, hi, by rw [← e]; exact lb_get hi⟩
def LbAt (w : World) (a : Option Addr) (n c : Nat) (l : List Lb) : Prop :=
  l.length = n ∧ n ≤ c ∧ n ≤ 9223372036854775807 ∧
  (n = 0 ∨ ∃ b off, a = some ⟨b, off, none⟩ ∧ b < w.heap.size ∧ ∀ i, i < n → w.cell? ⟨b, off + i * 2, none⟩ = some (.string (bs (lN l i))) ∧ w.cell? ⟨b, off + i * 2 + 1, none⟩ = some (.string (bs (lV l i))))
theorem LbAt.nil (w : World) (a : Option Addr) (c : Nat) : LbAt w a 0 c [] := ⟨rfl, Nat.zero_le _, by omega, .inl rfl⟩
theorem LbAt.len {w : World} {a : Option Addr} {n c : Nat} {l : List Lb} (h : LbAt w a n c l) : LbAt w a l.length c l := by
  have := h.1
  subst this; exact h
theorem LbAt.trn {F : Nat → Prop} {w w' : World} (t : Trn F w w') {a : Option Addr} {n c : Nat} {l : List Lb} (h : LbAt w a n c l) : LbAt w' a n c l := by
  obtain ⟨h1, h2, h3, h5⟩ := h
  refine ⟨h1, h2, h3, ?_⟩
  rcases h5 with h0 | ⟨b, off, rfl, hlt, hc⟩
  · exact .inl h0
  · exact .inr ⟨b, off, rfl, Nat.lt_of_lt_of_le hlt t.size, fun i hi => ⟨t.cell (hc i hi).1, t.cell (hc i hi).2⟩⟩
theorem LbAt.keep {w w' : World} {a : Option Addr} {n c : Nat} {l : List Lb} (h : LbAt w a n c l) (hb : Below w.heap.size w w') : LbAt w' a n c l := h.trn (F := fun _ => False) (.of hb)
theorem LbAt.at_ {w : World} {a : Option Addr} {n c : Nat} {l : List Lb} (h : LbAt w a n c l) (i : Nat) (hi : i < n) :
    ∃ b off, a = some ⟨b, off, none⟩ ∧ b < w.heap.size ∧ w.cell? ⟨b, off + i * 2, none⟩ = some (.string (bs (lN l i))) ∧ w.cell? ⟨b, off + i * 2 + 1, none⟩ = some (.string (bs (lV l i))) := by
  obtain ⟨h1, h2, h3, h5⟩ := h
  rcases h5 with h0 | ⟨b, off, rfl, hlt, hc⟩
  · omega
  · exact ⟨b, off, rfl, hlt, hc i hi⟩
theorem LbAt.two {w : World} {a : Option Addr} {n c : Nat} {l : List Lb} (h : LbAt w a n c l) (i j : Nat) (hi : i < n) (hj : j < n) :
    ∃ b off, a = some ⟨b, off, none⟩ ∧ b < w.heap.size ∧ w.cell? ⟨b, off + i * 2, none⟩ = some (.string (bs (lN l i))) ∧ w.cell? ⟨b, off + i * 2 + 1, none⟩ = some (.string (bs (lV l i))) ∧
      w.cell? ⟨b, off + j * 2, none⟩ = some (.string (bs (lN l j))) ∧ w.cell? ⟨b, off + j * 2 + 1, none⟩ = some (.string (bs (lV l j))) := by
  obtain ⟨h1, h2, h3, h5⟩ := h
  rcases h5 with h0 | ⟨b, off, rfl, hlt, hc⟩
  · omega
  · exact ⟨b, off, rfl, hlt, (hc i hi).1, (hc i hi).2, (hc j hj).1, (hc j hj).2⟩
theorem size_lb (W : World) : (sizeOf (Tryz.prog.elem 25)).run Tryz.prog W = .ok 2 W := by kernel_rfl
/-- The first k. -/
theorem LbAt.to_ {w : World} {a : Option Addr} {n c : Nat} {l : List Lb} (h : LbAt w a n c l) (k : Nat) (hk : k ≤ n) : LbAt w a k c (l.take k) := by
  obtain ⟨h1, h2, h3, h5⟩ := h
  refine ⟨by simp; omega, by omega, by omega, ?_⟩
  by_cases hz : k = 0
  · exact .inl hz
  · rcases h5 with h0 | ⟨b, off, rfl, hlt, hc⟩
    · omega
    · refine .inr ⟨b, off, rfl, hlt, fun i hi => ?_⟩
      have e : (l.take k).getD i ([], []) = l.getD i ([], []) := by rw [List.getD_eq_getElem?_getD, List.getD_eq_getElem?_getD, List.getElem?_take, if_pos hi]
      unfold lN lV
      rw [e]; exact hc i (by omega)
/-- From the k-th on. -/
theorem LbAt.from_ {w : World} {a : Option Addr} {n c : Nat} {l : List Lb} (h : LbAt w a n c l) (k : Nat) (hk : k ≤ n) :
    ∃ a', (∀ W : World, (Instr.slice 25 (.slice a n c) (some (.int .i64 (k : Int))) none none).run Tryz.prog W = .ok (.slice a' (n - k) (c - k)) W) ∧ LbAt w a' (n - k) (c - k) (l.drop k) := by
  obtain ⟨h1, h2, h3, h5⟩ := h
  refine ⟨if c = k then a else a.map (·.add (k * 2)), fun W => ?_, by simp; omega, by omega, by omega, ?_⟩
  · rw [run_slice_l W 25 _ _ _ (by kernel_rfl) .i64 (k : Int) (by omega) (by omega), size_lb]
    simp [Result.andThen, sliced]
  · by_cases hz : n - k = 0
    · exact .inl hz
    · rcases h5 with h0 | ⟨b, off, rfl, hlt, hc⟩
      · omega
      · rw [if_neg (by omega)]
        refine .inr ⟨b, off + k * 2, by simp [Addr.add], hlt, fun i hi => ?_⟩
        have e : (l.drop k).getD i ([], []) = l.getD (k + i) ([], []) := by rw [List.getD_eq_getElem?_getD, List.getD_eq_getElem?_getD, List.getElem?_drop]
        unfold lN lV
        rw [e]
        have := hc (k + i) (by omega)
        rw [show off + k * 2 + i * 2 = off + (k + i) * 2 from by omega]
        exact this

/-! Rows of labels of the call's own. -/
def lbCells (l : List Lb) : List Value := l.flatMap fun x => [.string (bs x.1), .string (bs x.2)]
theorem lbCells_length (z : List Lb) : (lbCells z).length = z.length * 2 := by
  induction z with
  | nil => rfl
  | cons x r ih =>
    have e : lbCells (x :: r) = .string (bs x.1) :: .string (bs x.2) :: lbCells r := by simp [lbCells]
    rw [e, List.length_cons, List.length_cons, ih, List.length_cons]; omega
theorem lbCells_append (a b : List Lb) : lbCells (a ++ b) = lbCells a ++ lbCells b := by simp [lbCells]
theorem lbCells_get (z : List Lb) (j : Nat) (h : j < z.length) : (lbCells z)[j * 2]? = some (.string (bs (lN z j))) ∧ (lbCells z)[j * 2 + 1]? = some (.string (bs (lV z j))) := by
  induction z generalizing j with
  | nil => simp at h
  | cons x r ih =>
    have e : lbCells (x :: r) = .string (bs x.1) :: .string (bs x.2) :: lbCells r := by simp [lbCells]
    rw [e]
    cases j with
    | zero => simp [lN, lV]
    | succ j =>
      have h1 := ih j (by simpa using h)
      rw [show (j + 1) * 2 = j * 2 + 1 + 1 from by omega]
      simpa [lN, lV] using h1
theorem lbCells_one (z : List Lb) : ∀ u ∈ lbCells z, u.oneCell' = true := by
  intro u hu
  simp [lbCells] at hu
  rcases hu with ⟨a, b, _, rfl | rfl⟩ <;> rfl
theorem info_lb : (Tryz.prog.info? 69).map (fun i => (i.zero, i.size, i.bytes)) = some (some (.agg #[.string ⟨#[]⟩, .string ⟨#[]⟩]), 2, 32) := by kernel_rfl

def LRow (w : World) (base : Nat) (v : Value) (l : List Lb) : Prop := w.ownsRow base 69 2 v l.length (lbCells l)
theorem LRow.nil (w : World) (base : Nat) : LRow w base (.slice none 0 0) [] := World.ownsRow_nil w base _ _
theorem LRow.of {w : World} {base n : Nat} {v : Value} {l : List Lb} (h : w.ownsRow base 69 2 v n (lbCells l)) : LRow w base v l := by
  have e := h.1
  rw [lbCells_length] at e
  have : l.length = n := by omega
  subst this
  exact h
theorem LRow.shape {w : World} {base : Nat} {v : Value} {l : List Lb} (h : LRow w base v l) : ∃ a cap, v = .slice a l.length cap ∧ LbAt w a l.length cap l := by
  rcases h.2 with ⟨rfl, e⟩ | ⟨g, cap, cur, rfl, hb, hg, hle, hmx, hsz, htk⟩
  · have : l = [] := List.eq_nil_of_length_eq_zero e
    subst this
    exact ⟨none, 0, rfl, LbAt.nil w none 0⟩
  · have hcell : ∀ j u, (lbCells l)[j]? = some u → w.cell? ⟨g, j, none⟩ = some u := fun j u hu => by
      have hjl : j < l.length * 2 := by have := (List.getElem?_eq_some_iff.1 hu).1; rw [lbCells_length] at this; exact this
      rw [cell_of hg]
      rw [← htk, List.getElem?_take, if_pos hjl, Array.getElem?_toList] at hu
      exact hu
    refine ⟨_, cap, rfl, rfl, hle, by unfold maxLen at hmx; omega, .inr ⟨g, 0, rfl, heap_lt hg, fun i hi => ?_⟩⟩
    obtain ⟨e1, e2⟩ := lbCells_get l i hi
    rw [Nat.zero_add]
    exact ⟨hcell _ _ e1, hcell _ _ e2⟩
theorem LRow.keep {w w' : World} {base : Nat} {v : Value} {l : List Lb} (h : LRow w base v l) (hb : Below w.heap.size w w') : LRow w' base v l := by
  refine ⟨h.1, ?_⟩
  rcases h.2 with e | ⟨g, cap, cur, rfl, hbg, hg, r⟩
  · exact .inl e
  · exact .inr ⟨g, cap, cur, rfl, hbg, by rw [hb.block g (heap_lt hg)]; exact hg, r⟩
theorem LRow.alloc {w : World} {base : Nat} {v : Value} {l : List Lb} (h : LRow w base v l) (o : Obj) : LRow (w.alloc o) base v l := h.keep ((Below.refl _ _).alloc (Nat.le_refl _) o)
theorem LRow.mono {w : World} {base base' : Nat} {v : Value} {l : List Lb} (h : LRow w base v l) (hb : base' ≤ base) : LRow w base' v l := by
  refine ⟨h.1, ?_⟩
  rcases h.2 with e | ⟨g, cap, cur, rfl, hbg, r⟩
  · exact .inl e
  · exact .inr ⟨g, cap, cur, rfl, by omega, r⟩
theorem LRow.bel {w w' w0 : World} {B base : Nat} {v : Value} {l : List Lb} (hb : Below B w0 w) (hs : B ≤ w.heap.size) (hown : LRow w base v l) (hB : B ≤ base) (g : w.grownBy w' v.ownBlock) : Below B w0 w' :=
  hb.grown g hs (fun k hk => Nat.le_trans hB (World.ownsRow.lt hown k hk).1)
theorem lb_lit {w : World} {b : Nat} {l : List Lb} (h : w.heap[b]? = some (.cells (lbCells l).toArray 69 (0, 0))) (hn : l.length ≤ 1000) : LbAt w (some ⟨b, 0, none⟩) l.length l.length l := by
  refine ⟨rfl, Nat.le_refl _, by omega, .inr ⟨b, 0, rfl, heap_lt h, fun i hi => ?_⟩⟩
  obtain ⟨e1, e2⟩ := lbCells_get l i hi
  rw [Nat.zero_add, cell_of h, cell_of h]
  exact ⟨by simpa using e1, by simpa using e2⟩
theorem LbAt.src {w : World} {a : Option Addr} {n c : Nat} {l : List Lb} (h : LbAt w a n c l) (ad : Addr) (e : a = some ad) : ∀ j u, (lbCells l)[j]? = some u → w.cell? (ad.add j) = some u := by
  intro j u hj
  have hjl : j < l.length * 2 := by have := (List.getElem?_eq_some_iff.1 hj).1; rw [lbCells_length] at this; exact this
  obtain ⟨b, off, e', _, h0, h1⟩ := h.at_ (j / 2) (by rw [← h.1]; omega)
  rw [e] at e'
  simp only [Option.some.injEq] at e'
  subst e'
  obtain ⟨g0, g1⟩ := lbCells_get l (j / 2) (by omega)
  rw [show Addr.add ⟨b, off, none⟩ j = ⟨b, off + j, none⟩ from by simp [Addr.add]]
  rcases Nat.mod_two_eq_zero_or_one j with e0 | e0
  · have ej : j = j / 2 * 2 := by omega
    rw [ej] at hj
    rw [g0] at hj
    rw [ej, h0]; exact hj
  · have ej : j = j / 2 * 2 + 1 := by omega
    rw [ej] at hj
    rw [g1] at hj
    rw [ej, ← Nat.add_assoc, h1]; exact hj

theorem wpList_append_lb {w : World} {ops : Array Oper} {rest : List Oper} {o : Oper} {a : Act} {Q : Exit → Act → World → Prop} (hw : Region.wanted o (yielded ops a.tmps) = true) (s x : Operand)
    (ho : o.op = .call { callee := .builtin .append, args := #[s, x], argTypes := #[25, 25] })
    (base : Nat) (v : Value) (l : List Lb) (hs : a.eval s = v) (hown : LRow w base v l)
    (ax : Option Addr) (m c : Nat) (k : List Lb) (hx : a.eval x = .slice ax m c) (hl : LbAt w ax m c k) (hb : l.length + m ≤ 1048576) (hbase : base ≤ w.heap.size)
    (h : ∀ v' w', LRow w' base v' (l ++ k) → w.grownBy w' v.ownBlock → wpList Tryz.prog ops Q rest (a.put o.dst v') w') : wpList Tryz.prog ops Q (o :: rest) a w := by
  obtain ⟨i0, hi, hz0, hz1, hz2⟩ := info_parts info_lb
  refine wpList_step fun K hK => ?_
  rw [if_pos hw]
  have hm := hl.1
  cases ax with
  | none =>
    have h0 : m = 0 := by
      rcases hl.2.2.2 with e | ⟨b, off, e, _⟩
      · exact e
      · cases e
    subst h0
    have e0 : k = [] := List.eq_nil_of_length_eq_zero hm
    subst e0
    have hrun := run_append_no (P := Tryz.prog) (w := w) base 25 o.type 69 i0 2 c Tryz.underlying25 hi v l.length _ hown
    unfold Oper.wp
    simp [execOp, ho, resolve, invoke, builtin, hs, hx, hrun, Result.andThen]
    refine hK _ _ (h v w ?_ (gb_refl _ _))
    simpa using hown
  | some ad =>
    refine wp_append_own w s x 25 ho base 69 i0 _ 2 32 Tryz.underlying25 hi hz0 hz1 hz2 rfl (by omega) v l.length _ hs hown ad m c (lbCells k) hx (by rw [lbCells_length, hm]) (hl.src ad rfl) (lbCells_one k) (by unfold maxLen; omega) (by omega) hbase ?_
    intro v' w' h2 h3 _
    refine hK _ _ (h v' w' ?_ h3)
    unfold LRow
    rw [List.length_append, lbCells_append, hm]; exact h2
theorem LbAt.one (w : World) (x : Lb) : LbAt (w.alloc (.cells #[.string (bs x.1), .string (bs x.2)] 69)) (some ⟨w.heap.size, 0, none⟩) 1 1 [x] :=
  lb_lit (l := [x]) (heap_new w _) (by simp)

/-- A value that is a slice of labels. -/
def LbV (w : World) (v : Value) (l : List Lb) : Prop := ∃ a c, v = .slice a l.length c ∧ LbAt w a l.length c l
theorem LbV.trn {F : Nat → Prop} {w w' : World} (t : Trn F w w') {v : Value} {l : List Lb} (h : LbV w v l) : LbV w' v l := by
  obtain ⟨a, c, e, k⟩ := h
  exact ⟨a, c, e, k.trn t⟩
/-- '==' of labels. -/
theorem eqIn_lb (w : World) (a b c d : Tx) : (Op.equalIn 10000 69 (.agg #[.string (bs a), .string (bs b)]) (.agg #[.string (bs c), .string (bs d)])).run Tryz.prog w = .ok (decide ((a, b) = (c, d))) w := by
  rw [run_equalIn_struct (P := Tryz.prog) w 9999 69 _ _ (by kernel_rfl) (by kernel_rfl)]
  have hf : (Tryz.prog.fieldsOf 69).toList = [(Tryz.prog.fieldsOf 69)[0]!, (Tryz.prog.fieldsOf 69)[1]!] := by kernel_rfl
  have n0 : ((Tryz.prog.fieldsOf 69)[0]!).name ≠ "_" := by rw [show ((Tryz.prog.fieldsOf 69)[0]!).name = "Name" from by kernel_rfl]; decide
  have n1 : ((Tryz.prog.fieldsOf 69)[1]!).name ≠ "_" := by rw [show ((Tryz.prog.fieldsOf 69)[1]!).name = "Value" from by kernel_rfl]; decide
  have t0 : ((Tryz.prog.fieldsOf 69)[0]!).type = 9 := by kernel_rfl
  have t1 : ((Tryz.prog.fieldsOf 69)[1]!).type = 9 := by kernel_rfl
  have p0 : ∀ (x y : Tx) (W : World), (part 9 #[.string (bs x), .string (bs y)] ((Tryz.prog.fieldsOf 69)[0]!).offset).run Tryz.prog W = .ok (.string (bs x)) W := fun x y W => by kernel_rfl
  have p1 : ∀ (x y : Tx) (W : World), (part 9 #[.string (bs x), .string (bs y)] ((Tryz.prog.fieldsOf 69)[1]!).offset).run Tryz.prog W = .ok (.string (bs y)) W := fun x y W => by kernel_rfl
  have q : ∀ (x y : Tx) (W : World), (Op.equalIn 9999 9 (.string (bs x)) (.string (bs y))).run Tryz.prog W = .ok (decide (x = y)) W := fun x y W => by
    rw [show (9999 : Nat) = 9998 + 1 from rfl, run_equalIn_string (P := Tryz.prog) W 9998 9 _ _ Tryz.underlying9, eq_bs]
  rw [hf]
  simp only [Op.eqFields, n0, n1, ne_eq, not_false_eq_true, if_true, t0, t1, Sem.run_bind, p0, p1, q, Result.andThen_ok]
  by_cases h1 : a = c
  · by_cases h2 : b = d
    · subst h1; subst h2
      simp only [Sem.run_ite, Sem.run_bind, Sem.run_pure, p1, q, Result.andThen_ok, decide_true, Bool.not_true, Bool.false_eq_true, if_false]
    · subst h1
      have e : decide ((a, b) = (a, d)) = false := by simp [h2]
      simp only [Sem.run_ite, Sem.run_bind, Sem.run_pure, p1, q, Result.andThen_ok, decide_true, decide_eq_false h2, Bool.not_true, Bool.not_false, Bool.false_eq_true, if_false, if_true, e]
  · simp [Sem.run_ite, h1]
theorem run_eq_lb (w : World) (a b c d : Tx) : (binOp .eql 69 (.agg #[.string (bs a), .string (bs b)]) (.agg #[.string (bs c), .string (bs d)])).run Tryz.prog w = .ok (.bool (decide ((a, b) = (c, d)))) w := by
  rw [run_eql_struct, eqIn_lb]; rfl
theorem run_ne_lb (w : World) (a b c d : Tx) : (binOp .neq 69 (.agg #[.string (bs a), .string (bs b)]) (.agg #[.string (bs c), .string (bs d)])).run Tryz.prog w = .ok (.bool (!decide ((a, b) = (c, d)))) w := by
  rw [run_neq_struct, eqIn_lb]; rfl

end Go.Proofs.YtifjbbiphekmmaaGreatDoor
