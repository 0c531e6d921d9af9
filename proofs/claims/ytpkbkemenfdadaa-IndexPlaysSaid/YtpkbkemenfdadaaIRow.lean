/-
  The document's answer's entries in memory: keys with their labels, in a row.
-/
import Derived.Test.YtpkbkemenfdadaaIMath2
import Derived.Test.YtpkbkemenfdadaaIAt
import Derived.Test.YtpkbkemenfdadaaERef
namespace Go.Proofs.Ytpkbkemenfdadaa
open Go.RowKit
set_option linter.unusedVariables false
set_option linter.unusedSimpArgs false

/-- An entry: a key, a slice, and the labels that lie there. -/
structure EnT where
  key : Tx
  a : Option Addr
  n : Nat
  c : Nat
  l : List Lb
instance : Inhabited EnT := ⟨⟨[], none, 0, 0, []⟩⟩
def EnT.ent (e : EnT) : Ent := (e.key, e.l)
def ents (T : List EnT) : List Ent := T.map EnT.ent
def eK (T : List EnT) (i : Nat) : Tx := (T.getD i default).key
def eV (T : List EnT) (i : Nat) : Value := .slice (T.getD i default).a (T.getD i default).n (T.getD i default).c
def EnAt (w : World) (a : Option Addr) (n c : Nat) (l : List EnT) : Prop :=
  l.length = n ∧ n ≤ c ∧ n ≤ 9223372036854775807 ∧
  (n = 0 ∨ ∃ b off, a = some ⟨b, off, none⟩ ∧ b < w.heap.size ∧ ∀ i, i < n → w.cell? ⟨b, off + i * 2, none⟩ = some (.string (bs (eK l i))) ∧ w.cell? ⟨b, off + i * 2 + 1, none⟩ = some (eV l i))
theorem EnAt.nil (w : World) (a : Option Addr) (c : Nat) : EnAt w a 0 c [] := ⟨rfl, Nat.zero_le _, by omega, .inl rfl⟩
theorem EnAt.len {w : World} {a : Option Addr} {n c : Nat} {l : List EnT} (h : EnAt w a n c l) : EnAt w a l.length c l := by
  have := h.1
  subst this; exact h
theorem EnAt.trn {F : Nat → Prop} {w w' : World} (t : Trn F w w') {a : Option Addr} {n c : Nat} {l : List EnT} (h : EnAt w a n c l) : EnAt w' a n c l := by
  obtain ⟨h1, h2, h3, h5⟩ := h
  refine ⟨h1, h2, h3, ?_⟩
  rcases h5 with h0 | ⟨b, off, rfl, hlt, hc⟩
  · exact .inl h0
  · exact .inr ⟨b, off, rfl, Nat.lt_of_lt_of_le hlt t.size, fun i hi => ⟨t.cell (hc i hi).1, t.cell (hc i hi).2⟩⟩
theorem EnAt.keep {w w' : World} {a : Option Addr} {n c : Nat} {l : List EnT} (h : EnAt w a n c l) (hb : Below w.heap.size w w') : EnAt w' a n c l := h.trn (F := fun _ => False) (.of hb)
theorem EnAt.at_ {w : World} {a : Option Addr} {n c : Nat} {l : List EnT} (h : EnAt w a n c l) (i : Nat) (hi : i < n) :
    ∃ b off, a = some ⟨b, off, none⟩ ∧ b < w.heap.size ∧ w.cell? ⟨b, off + i * 2, none⟩ = some (.string (bs (eK l i))) ∧ w.cell? ⟨b, off + i * 2 + 1, none⟩ = some (eV l i) := by
  obtain ⟨h1, h2, h3, h5⟩ := h
  rcases h5 with h0 | ⟨b, off, rfl, hlt, hc⟩
  · omega
  · exact ⟨b, off, rfl, hlt, hc i hi⟩
theorem size_en (W : World) : (sizeOf (Try.prog.elem 28)).run Try.prog W = .ok 2 W := by kernel_rfl
/-- From the k-th on. -/
theorem EnAt.from_ {w : World} {a : Option Addr} {n c : Nat} {l : List EnT} (h : EnAt w a n c l) (k : Nat) (hk : k ≤ n) :
    ∃ a', (∀ W : World, (Instr.slice 28 (.slice a n c) (some (.int .i64 (k : Int))) none none).run Try.prog W = .ok (.slice a' (n - k) (c - k)) W) ∧ EnAt w a' (n - k) (c - k) (l.drop k) := by
  obtain ⟨h1, h2, h3, h5⟩ := h
  refine ⟨if c = k then a else a.map (·.add (k * 2)), fun W => ?_, by simp; omega, by omega, by omega, ?_⟩
  · rw [run_slice_l W 28 _ _ _ (by kernel_rfl) .i64 (k : Int) (by omega) (by omega), size_en]
    simp [Result.andThen, sliced]
  · by_cases hz : n - k = 0
    · exact .inl hz
    · rcases h5 with h0 | ⟨b, off, rfl, hlt, hc⟩
      · omega
      · rw [if_neg (by omega)]
        refine .inr ⟨b, off + k * 2, by simp [Addr.add], hlt, fun i hi => ?_⟩
        have e : (l.drop k).getD i default = l.getD (k + i) default := by rw [List.getD_eq_getElem?_getD, List.getD_eq_getElem?_getD, List.getElem?_drop]
        unfold eK eV
        rw [e]
        have := hc (k + i) (by omega)
        rw [show off + k * 2 + i * 2 = off + (k + i) * 2 from by omega]
        exact this

def enCells (l : List EnT) : List Value := l.flatMap fun x => [.string (bs x.key), .slice x.a x.n x.c]
theorem enCells_length (z : List EnT) : (enCells z).length = z.length * 2 := by
  induction z with
  | nil => rfl
  | cons x r ih =>
    have e : enCells (x :: r) = .string (bs x.key) :: .slice x.a x.n x.c :: enCells r := by simp [enCells]
    rw [e, List.length_cons, List.length_cons, ih, List.length_cons]; omega
theorem enCells_append (a b : List EnT) : enCells (a ++ b) = enCells a ++ enCells b := by simp [enCells]
theorem enCells_get (z : List EnT) (j : Nat) (h : j < z.length) : (enCells z)[j * 2]? = some (.string (bs (eK z j))) ∧ (enCells z)[j * 2 + 1]? = some (eV z j) := by
  induction z generalizing j with
  | nil => simp at h
  | cons x r ih =>
    have e : enCells (x :: r) = .string (bs x.key) :: .slice x.a x.n x.c :: enCells r := by simp [enCells]
    rw [e]
    cases j with
    | zero => simp [eK, eV]
    | succ j =>
      have h1 := ih j (by simpa using h)
      rw [show (j + 1) * 2 = j * 2 + 1 + 1 from by omega]
      simpa [eK, eV] using h1
theorem enCells_one (z : List EnT) : ∀ u ∈ enCells z, u.oneCell' = true := by
  intro u hu
  obtain ⟨e, _, h⟩ := List.mem_flatMap.1 hu
  simp only [List.mem_cons, List.not_mem_nil, or_false] at h
  rcases h with rfl | rfl <;> rfl
theorem info_en : (Try.prog.info? 68).map (fun i => (i.zero, i.size, i.bytes)) = some (some (.agg #[.string ⟨#[]⟩, .slice none 0 0]), 2, 40) := by kernel_rfl

def ERow (w : World) (base : Nat) (v : Value) (l : List EnT) : Prop := w.ownsRow base 68 2 v l.length (enCells l)
theorem ERow.nil (w : World) (base : Nat) : ERow w base (.slice none 0 0) [] := World.ownsRow_nil w base _ _
theorem ERow.of {w : World} {base n : Nat} {v : Value} {l : List EnT} (h : w.ownsRow base 68 2 v n (enCells l)) : ERow w base v l := by
  have e := h.1
  rw [enCells_length] at e
  have : l.length = n := by omega
  subst this
  exact h
theorem ERow.shape {w : World} {base : Nat} {v : Value} {l : List EnT} (h : ERow w base v l) : ∃ a cap, v = .slice a l.length cap ∧ EnAt w a l.length cap l := by
  rcases h.2 with ⟨rfl, e⟩ | ⟨g, cap, cur, rfl, hb, hg, hle, hmx, hsz, htk⟩
  · have : l = [] := List.eq_nil_of_length_eq_zero e
    subst this
    exact ⟨none, 0, rfl, EnAt.nil w none 0⟩
  · have hcell : ∀ j u, (enCells l)[j]? = some u → w.cell? ⟨g, j, none⟩ = some u := fun j u hu => by
      have hjl : j < l.length * 2 := by have := (List.getElem?_eq_some_iff.1 hu).1; rw [enCells_length] at this; exact this
      rw [cell_of hg]
      rw [← htk, List.getElem?_take, if_pos hjl, Array.getElem?_toList] at hu
      exact hu
    refine ⟨_, cap, rfl, rfl, hle, by unfold maxLen at hmx; omega, .inr ⟨g, 0, rfl, heap_lt hg, fun i hi => ?_⟩⟩
    obtain ⟨e1, e2⟩ := enCells_get l i hi
    rw [Nat.zero_add]
    exact ⟨hcell _ _ e1, hcell _ _ e2⟩
theorem ERow.keep {w w' : World} {base : Nat} {v : Value} {l : List EnT} (h : ERow w base v l) (hb : Below w.heap.size w w') : ERow w' base v l := by
  refine ⟨h.1, ?_⟩
  rcases h.2 with e | ⟨g, cap, cur, rfl, hbg, hg, r⟩
  · exact .inl e
  · exact .inr ⟨g, cap, cur, rfl, hbg, by rw [hb.block g (heap_lt hg)]; exact hg, r⟩
theorem ERow.alloc {w : World} {base : Nat} {v : Value} {l : List EnT} (h : ERow w base v l) (o : Obj) : ERow (w.alloc o) base v l := h.keep ((Below.refl _ _).alloc (Nat.le_refl _) o)
theorem ERow.mono {w : World} {base base' : Nat} {v : Value} {l : List EnT} (h : ERow w base v l) (hb : base' ≤ base) : ERow w base' v l := by
  refine ⟨h.1, ?_⟩
  rcases h.2 with e | ⟨g, cap, cur, rfl, hbg, r⟩
  · exact .inl e
  · exact .inr ⟨g, cap, cur, rfl, by omega, r⟩
theorem ERow.bel {w w' w0 : World} {B base : Nat} {v : Value} {l : List EnT} (hb : Below B w0 w) (hs : B ≤ w.heap.size) (hown : ERow w base v l) (hB : B ≤ base) (g : w.grownBy w' v.ownBlock) : Below B w0 w' :=
  hb.grown g hs (fun k hk => Nat.le_trans hB (World.ownsRow.lt hown k hk).1)
theorem en_lit {w : World} {b : Nat} {l : List EnT} (h : w.heap[b]? = some (.cells (enCells l).toArray 68 (0, 0))) (hn : l.length ≤ 1000) : EnAt w (some ⟨b, 0, none⟩) l.length l.length l := by
  refine ⟨rfl, Nat.le_refl _, by omega, .inr ⟨b, 0, rfl, heap_lt h, fun i hi => ?_⟩⟩
  obtain ⟨e1, e2⟩ := enCells_get l i hi
  rw [Nat.zero_add, cell_of h, cell_of h]
  exact ⟨by simpa using e1, by simpa using e2⟩
theorem EnAt.src {w : World} {a : Option Addr} {n c : Nat} {l : List EnT} (h : EnAt w a n c l) (ad : Addr) (e : a = some ad) : ∀ j u, (enCells l)[j]? = some u → w.cell? (ad.add j) = some u := by
  intro j u hj
  have hjl : j < l.length * 2 := by have := (List.getElem?_eq_some_iff.1 hj).1; rw [enCells_length] at this; exact this
  obtain ⟨b, off, e', _, h0, h1⟩ := h.at_ (j / 2) (by rw [← h.1]; omega)
  rw [e] at e'
  simp only [Option.some.injEq] at e'
  subst e'
  obtain ⟨g0, g1⟩ := enCells_get l (j / 2) (by omega)
  rw [show Addr.add ⟨b, off, none⟩ j = ⟨b, off + j, none⟩ from by simp [Addr.add]]
  rcases Nat.mod_two_eq_zero_or_one j with e0 | e0
  · have ej : j = j / 2 * 2 := by omega
    rw [ej] at hj
    rw [g0] at hj
    rw [ej, h0]; exact hj
  · have ej : j = j / 2 * 2 + 1 := by omega
    rw [ej] at hj
    rw [g1] at hj
    rw [ej, ← Nat.add_assoc, h1]; exact hj

theorem wpList_append_en {w : World} {ops : Array Oper} {rest : List Oper} {o : Oper} {a : Act} {Q : Exit → Act → World → Prop} (hw : Region.wanted o (yielded ops a.tmps) = true) (s x : Operand)
    (ho : o.op = .call { callee := .builtin .append, args := #[s, x], argTypes := #[28, 28] })
    (base : Nat) (v : Value) (l : List EnT) (hs : a.eval s = v) (hown : ERow w base v l)
    (ax : Option Addr) (m c : Nat) (k : List EnT) (hx : a.eval x = .slice ax m c) (hl : EnAt w ax m c k) (hb : l.length + m ≤ 1048576) (hbase : base ≤ w.heap.size)
    (h : ∀ v' w', ERow w' base v' (l ++ k) → w.grownBy w' v.ownBlock → wpList Try.prog ops Q rest (a.put o.dst v') w') : wpList Try.prog ops Q (o :: rest) a w := by
  obtain ⟨i0, hi, hz0, hz1, hz2⟩ := info_parts info_en
  refine wpList_step fun K hK => ?_
  rw [if_pos hw]
  have hm := hl.1
  cases ax with
  | none =>
    have h0 : m = 0 := by
      rcases hl.2.2.2 with e | ⟨b, off, e, _⟩
      · exact e
      · cases e
    subst h0
    have e0 : k = [] := List.eq_nil_of_length_eq_zero hm
    subst e0
    have hrun := run_append_no (P := Try.prog) (w := w) base 28 o.type 68 i0 2 c Try.underlying28 hi v l.length _ hown
    unfold Oper.wp
    simp [execOp, ho, resolve, invoke, builtin, hs, hx, hrun, Result.andThen]
    refine hK _ _ (h v w ?_ (gb_refl _ _))
    simpa using hown
  | some ad =>
    refine wp_append_own w s x 28 ho base 68 i0 _ 2 40 Try.underlying28 hi hz0 hz1 hz2 rfl (by omega) v l.length _ hs hown ad m c (enCells k) hx (by rw [enCells_length, hm]) (hl.src ad rfl) (enCells_one k) (by unfold maxLen; omega) (by omega) hbase ?_
    intro v' w' h2 h3 _
    refine hK _ _ (h v' w' ?_ h3)
    unfold ERow
    rw [List.length_append, enCells_append, hm]; exact h2
theorem EnAt.one (w : World) (x : EnT) : EnAt (w.alloc (.cells #[.string (bs x.key), .slice x.a x.n x.c] 68)) (some ⟨w.heap.size, 0, none⟩) 1 1 [x] :=
  en_lit (l := [x]) (heap_new w _) (by simp)


end Go.Proofs.Ytpkbkemenfdadaa
