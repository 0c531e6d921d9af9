/-
  How lists of texts lie in memory: slices of texts, parts of them, rows of the call's own, 'append(row, list...)'.
-/
import Derived.Test.YtlogkhifgkkjeaaEMath
import Derived.Test.YtlogkhifgkkjeaaRowB
import Derived.Laws.AppendOwn
import Derived.Laws.OwnMore
import Derived.Laws.AppendOwnNone
import Derived.Sort.EncStr
namespace Go.Proofs.Ytlogkhifgkkjeaa
open Go.RowKit
set_option linter.unusedVariables false
set_option linter.unusedSimpArgs false

def bs (x : Tx) : ByteArray := ⟨x.toArray⟩
def tx (s : ByteArray) : Tx := s.data.toList
theorem tx_bs (x : Tx) : tx (bs x) = x := by simp [tx, bs]
theorem bs_tx (s : ByteArray) : bs (tx s) = s := by unfold tx bs; rw [Array.toArray_toList]
theorem list_bs (x : Tx) : (bs x).toList = x := by rw [Lib.toList_data]; exact tx_bs x
theorem bs_size (x : Tx) : (bs x).size = x.length := by simp [bs, ByteArray.size]
theorem bs_inj {x y : Tx} (h : bs x = bs y) : x = y := by rw [← tx_bs x, ← tx_bs y, h]
theorem less_bs (x y : Tx) : Op.bytesLess (bs x).toList (bs y).toList = decide (x < y) := by rw [less_eq, list_bs, list_bs]
theorem eq_bs (x y : Tx) : ((bs x).toList == (bs y).toList) = decide (x = y) := by
  rw [list_bs, list_bs]
  by_cases h : x = y
  · rw [decide_eq_true h, h]; exact beq_self_eq_true y
  · rw [decide_eq_false h]; exact beq_eq_false_iff_ne.2 h
/-- A text's cell. -/
def tc (x : Tx) : Value := .string (bs x)
theorem tc_enc : tc = encStr := rfl
theorem tc_one (x : Tx) : (tc x).oneCell' = true := rfl

/-- A slice of the texts l. -/
def TxAt (w : World) (a : Option Addr) (n c : Nat) (l : List Tx) : Prop :=
  l.length = n ∧ n ≤ c ∧ n ≤ 9223372036854775807 ∧
  (n = 0 ∨ ∃ b off, a = some ⟨b, off, none⟩ ∧ b < w.heap.size ∧ ∀ i, i < n → w.cell? ⟨b, off + i, none⟩ = some (.string (bs (l.getD i []))))
theorem TxAt.nil (w : World) (a : Option Addr) (c : Nat) : TxAt w a 0 c [] := ⟨rfl, Nat.zero_le _, by omega, .inl rfl⟩
theorem TxAt.keep {w w' : World} {a : Option Addr} {n c : Nat} {l : List Tx} (h : TxAt w a n c l) (hb : Below w.heap.size w w') : TxAt w' a n c l := by
  obtain ⟨h1, h2, h3, h5⟩ := h
  refine ⟨h1, h2, h3, ?_⟩
  rcases h5 with h0 | ⟨b, off, rfl, hlt, hc⟩
  · exact .inl h0
  · exact .inr ⟨b, off, rfl, Nat.lt_of_lt_of_le hlt hb.size, fun i hi => by rw [hb.cell hlt]; exact hc i hi⟩
theorem TxAt.at_ {w : World} {a : Option Addr} {n c : Nat} {l : List Tx} (h : TxAt w a n c l) (i : Nat) (hi : i < n) :
    ∃ b off, a = some ⟨b, off, none⟩ ∧ b < w.heap.size ∧ w.cell? ⟨b, off + i, none⟩ = some (.string (bs (l.getD i []))) := by
  obtain ⟨h1, h2, h3, h5⟩ := h
  rcases h5 with h0 | ⟨b, off, rfl, hlt, hc⟩
  · omega
  · exact ⟨b, off, rfl, hlt, hc i hi⟩
theorem TxAt.two {w : World} {a : Option Addr} {n c : Nat} {l : List Tx} (h : TxAt w a n c l) (i j : Nat) (hi : i < n) (hj : j < n) :
    ∃ b off, a = some ⟨b, off, none⟩ ∧ b < w.heap.size ∧ w.cell? ⟨b, off + i, none⟩ = some (.string (bs (l.getD i []))) ∧ w.cell? ⟨b, off + j, none⟩ = some (.string (bs (l.getD j []))) := by
  obtain ⟨h1, h2, h3, h5⟩ := h
  rcases h5 with h0 | ⟨b, off, rfl, hlt, hc⟩
  · omega
  · exact ⟨b, off, rfl, hlt, hc i hi, hc j hj⟩
theorem getD_get {l : List Tx} {i : Nat} (h : i < l.length) : l.getD i [] = l[i] := by rw [List.getD_eq_getElem?_getD, List.getElem?_eq_getElem h]; rfl
theorem size_tx (W : World) : (sizeOf (Try.prog.elem 69)).run Try.prog W = .ok 1 W := by kernel_rfl

/-- What stands from place k on. -/
theorem TxAt.from_ {w : World} {a : Option Addr} {n c : Nat} {l : List Tx} (h : TxAt w a n c l) (k : Nat) (hk : k ≤ n) :
    ∃ a', (∀ W : World, (Instr.slice 69 (.slice a n c) (some (.int .i64 (k : Int))) none none).run Try.prog W = .ok (.slice a' (n - k) (c - k)) W) ∧ TxAt w a' (n - k) (c - k) (l.drop k) := by
  obtain ⟨h1, h2, h3, h5⟩ := h
  refine ⟨if c = k then a else a.map (·.add (k * 1)), fun W => ?_, by simp; omega, by omega, by omega, ?_⟩
  · rw [run_slice_l W 69 _ _ _ (by kernel_rfl) .i64 (k : Int) (by omega) (by omega), size_tx]
    simp [Result.andThen, sliced]
  · by_cases hz : n - k = 0
    · exact .inl hz
    · rcases h5 with h0 | ⟨b, off, rfl, hlt, hc⟩
      · omega
      · rw [if_neg (by omega)]
        refine .inr ⟨b, off + k, by simp [Addr.add], hlt, fun i hi => ?_⟩
        rw [show off + k + i = off + (k + i) from by omega, hc (k + i) (by omega), getD_get (by omega), getD_get (by simp; omega), List.getElem_drop]

/-! Rows of the call's own. -/
def TRow (w : World) (base : Nat) (v : Value) (l : List Tx) : Prop := w.ownsRow base 9 1 v l.length (l.map tc)
theorem TRow.nil (w : World) (base : Nat) : TRow w base (.slice none 0 0) [] := World.ownsRow_nil w base _ _
theorem TRow.shape {w : World} {base : Nat} {v : Value} {l : List Tx} (h : TRow w base v l) : ∃ a cap, v = .slice a l.length cap ∧ TxAt w a l.length cap l := by
  rcases h.2 with ⟨rfl, e⟩ | ⟨g, cap, cur, rfl, hb, hg, hle, hmx, hsz, htk⟩
  · have : l = [] := List.eq_nil_of_length_eq_zero e
    subst this
    exact ⟨none, 0, rfl, TxAt.nil w none 0⟩
  · refine ⟨_, cap, rfl, rfl, hle, by unfold maxLen at hmx; omega, .inr ⟨g, 0, rfl, heap_lt hg, fun i hi => ?_⟩⟩
    have e : (cur.toList.take (l.length * 1))[i]? = (l.map tc)[i]? := by rw [htk]
    rw [List.getElem?_take, if_pos (by omega), Array.getElem?_toList, List.getElem?_map, List.getElem?_eq_getElem hi] at e
    rw [cell_of hg, Nat.zero_add, e, getD_get hi]; rfl
theorem TRow.of {w : World} {base n : Nat} {v : Value} {l : List Tx} (h : w.ownsRow base 9 1 v n (l.map encStr)) : TRow w base v l := by
  have e := h.1
  rw [List.length_map, Nat.mul_one] at e
  subst e
  exact h
theorem TRow.keep {w w' : World} {base : Nat} {v : Value} {l : List Tx} (h : TRow w base v l) (hb : Below w.heap.size w w') : TRow w' base v l := by
  refine ⟨h.1, ?_⟩
  rcases h.2 with e | ⟨g, cap, cur, rfl, hbg, hg, r⟩
  · exact .inl e
  · exact .inr ⟨g, cap, cur, rfl, hbg, by rw [hb.block g (heap_lt hg)]; exact hg, r⟩
theorem TRow.bel {w w' w0 : World} {B base : Nat} {v : Value} {l : List Tx} (hb : Below B w0 w) (hs : B ≤ w.heap.size) (hown : TRow w base v l) (hB : B ≤ base) (g : w.grownBy w' v.ownBlock) : Below B w0 w' :=
  hb.grown g hs (fun k hk => Nat.le_trans hB (World.ownsRow.lt hown k hk).1)
theorem info_tx : (Try.prog.info? 9).map (fun i => (i.zero, i.size, i.bytes)) = some (some (.string ⟨#[]⟩), 1, 16) := by kernel_rfl
theorem TxAt.src {w : World} {a : Option Addr} {n c : Nat} {l : List Tx} (h : TxAt w a n c l) (ad : Addr) (e : a = some ad) : ∀ j u, (l.map tc)[j]? = some u → w.cell? (ad.add j) = some u := by
  intro j u hj
  rw [List.getElem?_map] at hj
  cases hb : l[j]? with
  | none => rw [hb] at hj; cases hj
  | some q =>
    rw [hb] at hj
    obtain ⟨hlt, hq⟩ := List.getElem?_eq_some_iff.1 hb
    obtain ⟨b, off, e', _, hc⟩ := h.at_ j (by rw [← h.1]; exact hlt)
    rw [e] at e'
    simp only [Option.some.injEq] at e'
    subst e'
    rw [show Addr.add ⟨b, off, none⟩ j = ⟨b, off + j, none⟩ from by simp [Addr.add], hc]
    rw [List.getD_eq_getElem?_getD, hb]
    exact hj
theorem TxAt.one (w : World) (x : Tx) : TxAt (w.alloc (.cells #[.string (bs x)] 9)) (some ⟨w.heap.size, 0, none⟩) 1 1 [x] :=
  ⟨rfl, Nat.le_refl _, by omega, .inr ⟨w.heap.size, 0, rfl, by simp, fun i hi => by
    obtain rfl : i = 0 := by omega
    rw [cell_of (heap_new w _)]; rfl⟩⟩

theorem run_append_no {P : Program} {w : World} (base : Nat) (t ty e : TypeId) (i : TypeInfo) (size c : Nat) (ht : P.underlying t = some (.slice e)) (hi : P.info? e = some i)
    (v : Value) (n : Nat) (xs : List Value) (hown : w.ownsRow base e size v n xs) :
    (Builtin.append_ #[t, t] ty #[v, .slice none 0 c]).run P w = .ok v w := by
  rcases hown.2 with ⟨rfl, rfl⟩ | ⟨g, cap, cur, rfl, _, _, hnc, _⟩
  · simp [Builtin.append_, run_underlying ht, sizeOf, typeInfo, hi, Builtin.lenOf, Builtin.firstCells]
  · simp [Builtin.append_, run_underlying ht, sizeOf, typeInfo, hi, Builtin.lenOf, Builtin.firstCells, hnc, storeCells]

theorem wpList_append_tx {w : World} {ops : Array Oper} {rest : List Oper} {o : Oper} {a : Act} {Q : Exit → Act → World → Prop} (hw : Region.wanted o (yielded ops a.tmps) = true) (s x : Operand)
    (ho : o.op = .call { callee := .builtin .append, args := #[s, x], argTypes := #[69, 69] })
    (base : Nat) (v : Value) (l : List Tx) (hs : a.eval s = v) (hown : TRow w base v l)
    (ax : Option Addr) (m c : Nat) (k : List Tx) (hx : a.eval x = .slice ax m c) (hl : TxAt w ax m c k) (hb : l.length + m ≤ 1048576) (hbase : base ≤ w.heap.size)
    (h : ∀ v' w', TRow w' base v' (l ++ k) → w.grownBy w' v.ownBlock → wpList Try.prog ops Q rest (a.put o.dst v') w') : wpList Try.prog ops Q (o :: rest) a w := by
  obtain ⟨i0, hi, hz0, hz1, hz2⟩ := info_parts info_tx
  refine wpList_step fun K hK => ?_
  rw [if_pos hw]
  have hm := hl.1
  cases ax with
  | none =>
    have h0 : m = 0 := by
      rcases hl.2.2.2 with e | ⟨b, off, e, _⟩
      · exact e
      · cases e
    subst h0
    have e0 : k = [] := List.eq_nil_of_length_eq_zero hm
    subst e0
    have hrun := run_append_no (P := Try.prog) (w := w) base 69 o.type 9 i0 1 c Try.underlying69 hi v l.length _ hown
    unfold Oper.wp
    simp [execOp, ho, resolve, invoke, builtin, hs, hx, hrun, Result.andThen]
    refine hK _ _ (h v w ?_ (gb_refl _ _))
    simpa using hown
  | some ad =>
    refine wp_append_own w s x 69 ho base 9 i0 _ 1 16 Try.underlying69 hi hz0 hz1 hz2 rfl (by omega) v l.length _ hs hown ad m c (k.map tc) hx (by rw [List.length_map, hm]; omega) (hl.src ad rfl) (by intro u hu; obtain ⟨q, _, rfl⟩ := List.mem_map.1 hu; rfl) (by unfold maxLen; omega) (by omega) hbase ?_
    intro v' w' h2 h3 _
    refine hK _ _ (h v' w' ?_ h3)
    unfold TRow
    rw [List.length_append, List.map_append, hm]; exact h2

end Go.Proofs.Ytlogkhifgkkjeaa
