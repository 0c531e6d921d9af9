/-
  Terms in memory: a term's three cells, a slice of terms, a row of terms of the call's own (the program's and the document's).
-/
import Derived.Test.YtifjbbiphekmmaaGreatDoorFMath
import Derived.Test.YtifjbbiphekmmaaGreatDoorILab
import Derived.Test.YtifjbbiphekmmaaGreatDoorEMem
namespace Go.Proofs.YtifjbbiphekmmaaGreatDoor
open Go.RowKit
set_option linter.unusedVariables false
set_option linter.unusedSimpArgs false

/-- A term as it lies in memory: a slice, and the texts that lie there. -/
structure TmT where
  name : Tx
  neg : Bool
  a : Option Addr
  n : Nat
  c : Nat
  l : List Tx
instance : Inhabited TmT := ⟨⟨[], false, none, 0, 0, []⟩⟩
def TmT.trm (e : TmT) : Trm := (e.name, e.neg, e.l)
def trms (T : List TmT) : List Trm := T.map TmT.trm
theorem trms_len (T : List TmT) : (trms T).length = T.length := List.length_map _
def tmV (e : TmT) : Value := .agg #[.string (bs e.name), .bool e.neg, .slice e.a e.n e.c]
def tmT (l : List TmT) (i : Nat) : TmT := l.getD i default
theorem tm_get {l : List TmT} {i : Nat} (h : i < l.length) : tmT l i = l[i] := by unfold tmT; rw [List.getD_eq_getElem?_getD, List.getElem?_eq_getElem h]; rfl
theorem tm_mem {l : List TmT} {i : Nat} (h : i < l.length) : tmT l i ∈ l := by rw [tm_get h]; exact List.getElem_mem h
/-- A term's texts lie in memory. -/
def TmOk (w : World) (e : TmT) : Prop := TxAt w e.a e.n e.c e.l
theorem TmOk.keep {w w' : World} {e : TmT} (h : TmOk w e) (hb : Below w.heap.size w w') : TmOk w' e := TxAt.keep h hb
def TmAt (w : World) (a : Option Addr) (n c : Nat) (l : List TmT) : Prop :=
  l.length = n ∧ n ≤ c ∧ n ≤ 9223372036854775807 ∧
  (n = 0 ∨ ∃ b off, a = some ⟨b, off, none⟩ ∧ b < w.heap.size ∧ ∀ i, i < n → w.cell? ⟨b, off + i * 3, none⟩ = some (.string (bs (tmT l i).name)) ∧ w.cell? ⟨b, off + i * 3 + 1, none⟩ = some (.bool (tmT l i).neg) ∧ w.cell? ⟨b, off + i * 3 + 2, none⟩ = some (.slice (tmT l i).a (tmT l i).n (tmT l i).c))
theorem TmAt.nil (w : World) (a : Option Addr) (c : Nat) : TmAt w a 0 c [] := ⟨rfl, Nat.zero_le _, by omega, .inl rfl⟩
theorem TmAt.len {w : World} {a : Option Addr} {n c : Nat} {l : List TmT} (h : TmAt w a n c l) : TmAt w a l.length c l := by
  have := h.1
  subst this; exact h
theorem TmAt.trn {F : Nat → Prop} {w w' : World} (t : Trn F w w') {a : Option Addr} {n c : Nat} {l : List TmT} (h : TmAt w a n c l) : TmAt w' a n c l := by
  obtain ⟨h1, h2, h3, h5⟩ := h
  refine ⟨h1, h2, h3, ?_⟩
  rcases h5 with h0 | ⟨b, off, rfl, hlt, hc⟩
  · exact .inl h0
  · exact .inr ⟨b, off, rfl, Nat.lt_of_lt_of_le hlt t.size, fun i hi => ⟨t.cell (hc i hi).1, t.cell (hc i hi).2.1, t.cell (hc i hi).2.2⟩⟩
theorem TmAt.keep {w w' : World} {a : Option Addr} {n c : Nat} {l : List TmT} (h : TmAt w a n c l) (hb : Below w.heap.size w w') : TmAt w' a n c l := h.trn (F := fun _ => False) (.of hb)
theorem TmAt.at_ {w : World} {a : Option Addr} {n c : Nat} {l : List TmT} (h : TmAt w a n c l) (i : Nat) (hi : i < n) :
    ∃ b off, a = some ⟨b, off, none⟩ ∧ b < w.heap.size ∧ w.cell? ⟨b, off + i * 3, none⟩ = some (.string (bs (tmT l i).name)) ∧ w.cell? ⟨b, off + i * 3 + 1, none⟩ = some (.bool (tmT l i).neg) ∧ w.cell? ⟨b, off + i * 3 + 2, none⟩ = some (.slice (tmT l i).a (tmT l i).n (tmT l i).c) := by
  obtain ⟨h1, h2, h3, h5⟩ := h
  rcases h5 with h0 | ⟨b, off, rfl, hlt, hc⟩
  · omega
  · exact ⟨b, off, rfl, hlt, hc i hi⟩
/-- The cells, and each one's texts. -/
def TmsAt (w : World) (a : Option Addr) (n c : Nat) (l : List TmT) : Prop := TmAt w a n c l ∧ ∀ e ∈ l, TmOk w e
theorem TmsAt.keep {w w' : World} {a : Option Addr} {n c : Nat} {l : List TmT} (h : TmsAt w a n c l) (hb : Below w.heap.size w w') : TmsAt w' a n c l := ⟨h.1.keep hb, fun e he => (h.2 e he).keep hb⟩
theorem TmsAt.nil (w : World) (a : Option Addr) (c : Nat) : TmsAt w a 0 c [] := ⟨TmAt.nil w a c, by simp⟩
theorem TmsAt.ok {w : World} {a : Option Addr} {n c : Nat} {l : List TmT} (h : TmsAt w a n c l) {i : Nat} (hi : i < n) : TmOk w (tmT l i) := h.2 _ (tm_mem (by rw [h.1.1]; exact hi))

/-- A block that holds a term. -/
def BoxT (τ : TypeId) (w : World) (B : Nat) (e : TmT) : Prop := w.heap[B]? = some (.cells #[.string (bs e.name), .bool e.neg, .slice e.a e.n e.c] τ (0, 0))
theorem BoxT.x0 {τ : TypeId} {w : World} {B : Nat} {e : TmT} (h : BoxT τ w B e) : w.cell? ⟨B, 0, none⟩ = some (.string (bs e.name)) := by rw [cell_of h]; rfl
theorem BoxT.x1 {τ : TypeId} {w : World} {B : Nat} {e : TmT} (h : BoxT τ w B e) : w.cell? ⟨B, 1, none⟩ = some (.bool e.neg) := by rw [cell_of h]; rfl
theorem BoxT.x2 {τ : TypeId} {w : World} {B : Nat} {e : TmT} (h : BoxT τ w B e) : w.cell? ⟨B, 2, none⟩ = some (.slice e.a e.n e.c) := by rw [cell_of h]; rfl
theorem BoxT.trn {τ : TypeId} {F : Nat → Prop} {w w' : World} {B : Nat} {e : TmT} (h : BoxT τ w B e) (t : Trn F w w') : BoxT τ w' B e := t.cells _ _ _ _ h
theorem BoxT.keep {τ : TypeId} {w w' : World} {B : Nat} {e : TmT} (h : BoxT τ w B e) (b : Below w.heap.size w w') : BoxT τ w' B e := h.trn (F := fun _ => False) (.of b)
theorem BoxT.new (τ : TypeId) (w : World) (e : TmT) : BoxT τ (w.alloc (.cells #[.string (bs e.name), .bool e.neg, .slice e.a e.n e.c] τ)) w.heap.size e := heap_new w _
theorem BoxT.lt {τ : TypeId} {w : World} {B : Nat} {e : TmT} (h : BoxT τ w B e) : B < w.heap.size := heap_lt h

def tmCells (l : List TmT) : List Value := l.flatMap fun x => [.string (bs x.name), .bool x.neg, .slice x.a x.n x.c]
theorem tmCells_cons (x : TmT) (r : List TmT) : tmCells (x :: r) = .string (bs x.name) :: .bool x.neg :: .slice x.a x.n x.c :: tmCells r := by simp [tmCells]
theorem tmCells_length (z : List TmT) : (tmCells z).length = z.length * 3 := by
  induction z with
  | nil => rfl
  | cons x r ih => rw [tmCells_cons, List.length_cons, List.length_cons, List.length_cons, ih, List.length_cons]; omega
theorem tmCells_append (a b : List TmT) : tmCells (a ++ b) = tmCells a ++ tmCells b := by simp [tmCells]
theorem tmCells_get (z : List TmT) (j : Nat) (h : j < z.length) : (tmCells z)[j * 3]? = some (.string (bs (tmT z j).name)) ∧ (tmCells z)[j * 3 + 1]? = some (.bool (tmT z j).neg) ∧ (tmCells z)[j * 3 + 2]? = some (.slice (tmT z j).a (tmT z j).n (tmT z j).c) := by
  induction z generalizing j with
  | nil => simp at h
  | cons x r ih =>
    rw [tmCells_cons]
    cases j with
    | zero => simp [tmT]
    | succ j =>
      have h1 := ih j (by simpa using h)
      rw [show (j + 1) * 3 = j * 3 + 1 + 1 + 1 from by omega]
      simpa [tmT] using h1
theorem tmCells_one (z : List TmT) : ∀ u ∈ tmCells z, u.oneCell' = true := by
  intro u hu
  obtain ⟨e, _, h⟩ := List.mem_flatMap.1 hu
  simp only [List.mem_cons, List.not_mem_nil, or_false] at h
  rcases h with rfl | rfl | rfl <;> rfl
theorem TmAt.src {w : World} {a : Option Addr} {n c : Nat} {l : List TmT} (h : TmAt w a n c l) (ad : Addr) (e : a = some ad) : ∀ j u, (tmCells l)[j]? = some u → w.cell? (ad.add j) = some u := by
  intro j u hj
  have hjl : j < l.length * 3 := by have := (List.getElem?_eq_some_iff.1 hj).1; rw [tmCells_length] at this; exact this
  obtain ⟨b, off, e', _, h0, h1, h2⟩ := h.at_ (j / 3) (by rw [← h.1]; omega)
  rw [e] at e'
  simp only [Option.some.injEq] at e'
  subst e'
  obtain ⟨g0, g1, g2⟩ := tmCells_get l (j / 3) (by omega)
  rw [show Addr.add ⟨b, off, none⟩ j = ⟨b, off + j, none⟩ from by simp [Addr.add]]
  have h3 : j % 3 = 0 ∨ j % 3 = 1 ∨ j % 3 = 2 := by omega
  rcases h3 with e0 | e0 | e0
  · have ej : j = j / 3 * 3 := by omega
    rw [ej] at hj
    rw [g0] at hj
    rw [ej, h0]; exact hj
  · have ej : j = j / 3 * 3 + 1 := by omega
    rw [ej] at hj
    rw [g1] at hj
    rw [ej, ← Nat.add_assoc, h1]; exact hj
  · have ej : j = j / 3 * 3 + 2 := by omega
    rw [ej] at hj
    rw [g2] at hj
    rw [ej, ← Nat.add_assoc, h2]; exact hj

theorem info_ft : (Tryz.prog.info? 24).map (fun i => (i.zero, i.size, i.bytes)) = some (some (.agg #[.string ⟨#[]⟩, .bool false, .slice none 0 0]), 3, 48) := by kernel_rfl
def FRow (w : World) (base : Nat) (v : Value) (l : List TmT) : Prop := w.ownsRow base 24 3 v l.length (tmCells l)
theorem FRow.nil (w : World) (base : Nat) : FRow w base (.slice none 0 0) [] := World.ownsRow_nil w base _ _
theorem FRow.of {w : World} {base n : Nat} {v : Value} {l : List TmT} (h : w.ownsRow base 24 3 v n (tmCells l)) : FRow w base v l := by
  have e := h.1
  rw [tmCells_length] at e
  have : l.length = n := by omega
  subst this
  exact h
theorem FRow.shape {w : World} {base : Nat} {v : Value} {l : List TmT} (h : FRow w base v l) : ∃ a cap, v = .slice a l.length cap ∧ TmAt w a l.length cap l := by
  rcases h.2 with ⟨rfl, e⟩ | ⟨g, cap, cur, rfl, hb, hg, hle, hmx, hsz, htk⟩
  · have : l = [] := List.eq_nil_of_length_eq_zero e
    subst this
    exact ⟨none, 0, rfl, TmAt.nil w none 0⟩
  · have hcell : ∀ j u, (tmCells l)[j]? = some u → w.cell? ⟨g, j, none⟩ = some u := fun j u hu => by
      have hjl : j < l.length * 3 := by have := (List.getElem?_eq_some_iff.1 hu).1; rw [tmCells_length] at this; exact this
      rw [cell_of hg]
      rw [← htk, List.getElem?_take, if_pos hjl, Array.getElem?_toList] at hu
      exact hu
    refine ⟨_, cap, rfl, rfl, hle, by unfold maxLen at hmx; omega, .inr ⟨g, 0, rfl, heap_lt hg, fun i hi => ?_⟩⟩
    obtain ⟨e1, e2, e3⟩ := tmCells_get l i hi
    rw [Nat.zero_add]
    exact ⟨hcell _ _ e1, hcell _ _ e2, hcell _ _ e3⟩
theorem FRow.keep {w w' : World} {base : Nat} {v : Value} {l : List TmT} (h : FRow w base v l) (hb : Below w.heap.size w w') : FRow w' base v l := by
  refine ⟨h.1, ?_⟩
  rcases h.2 with e | ⟨g, cap, cur, rfl, hbg, hg, r⟩
  · exact .inl e
  · exact .inr ⟨g, cap, cur, rfl, hbg, by rw [hb.block g (heap_lt hg)]; exact hg, r⟩
theorem FRow.alloc {w : World} {base : Nat} {v : Value} {l : List TmT} (h : FRow w base v l) (o : Obj) : FRow (w.alloc o) base v l := h.keep ((Below.refl _ _).alloc (Nat.le_refl _) o)
theorem FRow.mono {w : World} {base base' : Nat} {v : Value} {l : List TmT} (h : FRow w base v l) (hb : base' ≤ base) : FRow w base' v l := by
  refine ⟨h.1, ?_⟩
  rcases h.2 with e | ⟨g, cap, cur, rfl, hbg, r⟩
  · exact .inl e
  · exact .inr ⟨g, cap, cur, rfl, by omega, r⟩
theorem FRow.bel {w w' w0 : World} {B base : Nat} {v : Value} {l : List TmT} (hb : Below B w0 w) (hs : B ≤ w.heap.size) (hown : FRow w base v l) (hB : B ≤ base) (g : w.grownBy w' v.ownBlock) : Below B w0 w' :=
  hb.grown g hs (fun k hk => Nat.le_trans hB (World.ownsRow.lt hown k hk).1)
theorem lit_ft {w : World} {b : Nat} {l : List TmT} (h : w.heap[b]? = some (.cells (tmCells l).toArray 24 (0, 0))) (hn : l.length ≤ 1000) : TmAt w (some ⟨b, 0, none⟩) l.length l.length l := by
  refine ⟨rfl, Nat.le_refl _, by omega, .inr ⟨b, 0, rfl, heap_lt h, fun i hi => ?_⟩⟩
  obtain ⟨e1, e2, e3⟩ := tmCells_get l i hi
  rw [Nat.zero_add, cell_of h, cell_of h, cell_of h]
  exact ⟨by simpa using e1, by simpa using e2, by simpa using e3⟩
theorem wpList_append_ft {w : World} {ops : Array Oper} {rest : List Oper} {o : Oper} {a : Act} {Q : Exit → Act → World → Prop} (hw : Region.wanted o (yielded ops a.tmps) = true) (s x : Operand)
    (ho : o.op = .call { callee := .builtin .append, args := #[s, x], argTypes := #[44, 44] })
    (base : Nat) (v : Value) (l : List TmT) (hs : a.eval s = v) (hown : FRow w base v l)
    (ax : Option Addr) (m c : Nat) (k : List TmT) (hx : a.eval x = .slice ax m c) (hl : TmAt w ax m c k) (hb : l.length + m ≤ 1048576) (hbase : base ≤ w.heap.size)
    (h : ∀ v' w', FRow w' base v' (l ++ k) → w.grownBy w' v.ownBlock → wpList Tryz.prog ops Q rest (a.put o.dst v') w') : wpList Tryz.prog ops Q (o :: rest) a w := by
  obtain ⟨i0, hi, hz0, hz1, hz2⟩ := info_parts info_ft
  refine wpList_step fun K hK => ?_
  rw [if_pos hw]
  have hm := hl.1
  cases ax with
  | none =>
    have h0 : m = 0 := by
      rcases hl.2.2.2 with e | ⟨b, off, e, _⟩
      · exact e
      · cases e
    subst h0
    have e0 : k = [] := List.eq_nil_of_length_eq_zero hm
    subst e0
    have hrun := run_append_no (P := Tryz.prog) (w := w) base 44 o.type 24 i0 3 c Tryz.underlying44 hi v l.length _ hown
    unfold Oper.wp
    simp [execOp, ho, resolve, invoke, builtin, hs, hx, hrun, Result.andThen]
    refine hK _ _ (h v w ?_ (gb_refl _ _))
    simpa using hown
  | some ad =>
    refine wp_append_own w s x 44 ho base 24 i0 _ 3 48 Tryz.underlying44 hi hz0 hz1 hz2 rfl (by omega) v l.length _ hs hown ad m c (tmCells k) hx (by rw [tmCells_length, hm]) (hl.src ad rfl) (tmCells_one k) (by unfold maxLen; omega) (by omega) hbase ?_
    intro v' w' h2 h3 _
    refine hK _ _ (h v' w' ?_ h3)
    unfold FRow
    rw [List.length_append, tmCells_append, hm]; exact h2
theorem TmAt.oneFT (w : World) (x : TmT) : TmAt (w.alloc (.cells #[.string (bs x.name), .bool x.neg, .slice x.a x.n x.c] 24)) (some ⟨w.heap.size, 0, none⟩) 1 1 [x] :=
  lit_ft (l := [x]) (heap_new w _) (by simp)
theorem info_dt : (Tryz.prog.info? 30).map (fun i => (i.zero, i.size, i.bytes)) = some (some (.agg #[.string ⟨#[]⟩, .bool false, .slice none 0 0]), 3, 48) := by kernel_rfl
def DRow (w : World) (base : Nat) (v : Value) (l : List TmT) : Prop := w.ownsRow base 30 3 v l.length (tmCells l)
theorem DRow.nil (w : World) (base : Nat) : DRow w base (.slice none 0 0) [] := World.ownsRow_nil w base _ _
theorem DRow.of {w : World} {base n : Nat} {v : Value} {l : List TmT} (h : w.ownsRow base 30 3 v n (tmCells l)) : DRow w base v l := by
  have e := h.1
  rw [tmCells_length] at e
  have : l.length = n := by omega
  subst this
  exact h
theorem DRow.shape {w : World} {base : Nat} {v : Value} {l : List TmT} (h : DRow w base v l) : ∃ a cap, v = .slice a l.length cap ∧ TmAt w a l.length cap l := by
  rcases h.2 with ⟨rfl, e⟩ | ⟨g, cap, cur, rfl, hb, hg, hle, hmx, hsz, htk⟩
  · have : l = [] := List.eq_nil_of_length_eq_zero e
    subst this
    exact ⟨none, 0, rfl, TmAt.nil w none 0⟩
  · have hcell : ∀ j u, (tmCells l)[j]? = some u → w.cell? ⟨g, j, none⟩ = some u := fun j u hu => by
      have hjl : j < l.length * 3 := by have := (List.getElem?_eq_some_iff.1 hu).1; rw [tmCells_length] at this; exact this
      rw [cell_of hg]
      rw [← htk, List.getElem?_take, if_pos hjl, Array.getElem?_toList] at hu
      exact hu
    refine ⟨_, cap, rfl, rfl, hle, by unfold maxLen at hmx; omega, .inr ⟨g, 0, rfl, heap_lt hg, fun i hi => ?_⟩⟩
    obtain ⟨e1, e2, e3⟩ := tmCells_get l i hi
    rw [Nat.zero_add]
    exact ⟨hcell _ _ e1, hcell _ _ e2, hcell _ _ e3⟩
theorem DRow.keep {w w' : World} {base : Nat} {v : Value} {l : List TmT} (h : DRow w base v l) (hb : Below w.heap.size w w') : DRow w' base v l := by
  refine ⟨h.1, ?_⟩
  rcases h.2 with e | ⟨g, cap, cur, rfl, hbg, hg, r⟩
  · exact .inl e
  · exact .inr ⟨g, cap, cur, rfl, hbg, by rw [hb.block g (heap_lt hg)]; exact hg, r⟩
theorem DRow.alloc {w : World} {base : Nat} {v : Value} {l : List TmT} (h : DRow w base v l) (o : Obj) : DRow (w.alloc o) base v l := h.keep ((Below.refl _ _).alloc (Nat.le_refl _) o)
theorem DRow.mono {w : World} {base base' : Nat} {v : Value} {l : List TmT} (h : DRow w base v l) (hb : base' ≤ base) : DRow w base' v l := by
  refine ⟨h.1, ?_⟩
  rcases h.2 with e | ⟨g, cap, cur, rfl, hbg, r⟩
  · exact .inl e
  · exact .inr ⟨g, cap, cur, rfl, by omega, r⟩
theorem DRow.bel {w w' w0 : World} {B base : Nat} {v : Value} {l : List TmT} (hb : Below B w0 w) (hs : B ≤ w.heap.size) (hown : DRow w base v l) (hB : B ≤ base) (g : w.grownBy w' v.ownBlock) : Below B w0 w' :=
  hb.grown g hs (fun k hk => Nat.le_trans hB (World.ownsRow.lt hown k hk).1)
theorem lit_dt {w : World} {b : Nat} {l : List TmT} (h : w.heap[b]? = some (.cells (tmCells l).toArray 30 (0, 0))) (hn : l.length ≤ 1000) : TmAt w (some ⟨b, 0, none⟩) l.length l.length l := by
  refine ⟨rfl, Nat.le_refl _, by omega, .inr ⟨b, 0, rfl, heap_lt h, fun i hi => ?_⟩⟩
  obtain ⟨e1, e2, e3⟩ := tmCells_get l i hi
  rw [Nat.zero_add, cell_of h, cell_of h, cell_of h]
  exact ⟨by simpa using e1, by simpa using e2, by simpa using e3⟩
theorem wpList_append_dt {w : World} {ops : Array Oper} {rest : List Oper} {o : Oper} {a : Act} {Q : Exit → Act → World → Prop} (hw : Region.wanted o (yielded ops a.tmps) = true) (s x : Operand)
    (ho : o.op = .call { callee := .builtin .append, args := #[s, x], argTypes := #[47, 47] })
    (base : Nat) (v : Value) (l : List TmT) (hs : a.eval s = v) (hown : DRow w base v l)
    (ax : Option Addr) (m c : Nat) (k : List TmT) (hx : a.eval x = .slice ax m c) (hl : TmAt w ax m c k) (hb : l.length + m ≤ 1048576) (hbase : base ≤ w.heap.size)
    (h : ∀ v' w', DRow w' base v' (l ++ k) → w.grownBy w' v.ownBlock → wpList Tryz.prog ops Q rest (a.put o.dst v') w') : wpList Tryz.prog ops Q (o :: rest) a w := by
  obtain ⟨i0, hi, hz0, hz1, hz2⟩ := info_parts info_dt
  refine wpList_step fun K hK => ?_
  rw [if_pos hw]
  have hm := hl.1
  cases ax with
  | none =>
    have h0 : m = 0 := by
      rcases hl.2.2.2 with e | ⟨b, off, e, _⟩
      · exact e
      · cases e
    subst h0
    have e0 : k = [] := List.eq_nil_of_length_eq_zero hm
    subst e0
    have hrun := run_append_no (P := Tryz.prog) (w := w) base 47 o.type 30 i0 3 c Tryz.underlying47 hi v l.length _ hown
    unfold Oper.wp
    simp [execOp, ho, resolve, invoke, builtin, hs, hx, hrun, Result.andThen]
    refine hK _ _ (h v w ?_ (gb_refl _ _))
    simpa using hown
  | some ad =>
    refine wp_append_own w s x 47 ho base 30 i0 _ 3 48 Tryz.underlying47 hi hz0 hz1 hz2 rfl (by omega) v l.length _ hs hown ad m c (tmCells k) hx (by rw [tmCells_length, hm]) (hl.src ad rfl) (tmCells_one k) (by unfold maxLen; omega) (by omega) hbase ?_
    intro v' w' h2 h3 _
    refine hK _ _ (h v' w' ?_ h3)
    unfold DRow
    rw [List.length_append, tmCells_append, hm]; exact h2
theorem TmAt.oneDT (w : World) (x : TmT) : TmAt (w.alloc (.cells #[.string (bs x.name), .bool x.neg, .slice x.a x.n x.c] 30)) (some ⟨w.heap.size, 0, none⟩) 1 1 [x] :=
  lit_dt (l := [x]) (heap_new w _) (by simp)

end Go.Proofs.YtifjbbiphekmmaaGreatDoor
