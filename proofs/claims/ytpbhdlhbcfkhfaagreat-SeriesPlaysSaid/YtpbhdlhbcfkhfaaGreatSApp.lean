/-
  'append(row, list...)' for pointers to chunks, guarded or not, the row of the call's own, the list nil or not.
-/
import Derived.Test.YtpbhdlhbcfkhfaaGreatSMem
import Derived.Test.YtpbhdlhbcfkhfaaGreatCApp
namespace Go.Proofs.YtpbhdlhbcfkhfaaGreat
open Go.RowKit
set_option linter.unusedVariables false
set_option linter.unusedSimpArgs false

theorem info_ptr : (Tryz.prog.info? 46).map (fun i => (i.zero, i.size, i.bytes)) = some (some (.pointer none), 1, 8) := by kernel_rfl
theorem Ptrs.src {w : World} {a : Option Addr} {len cap : Nat} {bs : List Nat} (h : Ptrs w a len cap bs) (ad : Addr) (e : a = some ad) : ∀ j u, (bs.map ptr)[j]? = some u → w.cell? (ad.add j) = some u := by
  intro j u hj
  rw [List.getElem?_map] at hj
  cases hb : bs[j]? with
  | none => rw [hb] at hj; cases hj
  | some q =>
    rw [hb] at hj
    obtain ⟨hlt, hq⟩ := List.getElem?_eq_some_iff.1 hb
    obtain ⟨b, off, e', _, hc⟩ := h.at_ j (by rw [← h.1]; exact hlt)
    rw [e] at e'
    simp only [Option.some.injEq] at e'
    subst e'
    rw [show Addr.add ⟨b, off, none⟩ j = ⟨b, off + j, none⟩ from by simp [Addr.add], hc]
    rw [List.getD_eq_getElem?_getD, hb]
    exact hj
theorem Ptrs.one (w : World) (b : Nat) : Ptrs (w.alloc (.cells #[ptr b] 46)) (some ⟨w.heap.size, 0, none⟩) 1 1 [b] :=
  ⟨rfl, Nat.le_refl _, by omega, .inr ⟨w.heap.size, 0, #[ptr b], (0, 0), rfl, heap_new w _, fun i hi => by simp at hi; subst hi; rfl⟩⟩

theorem wpList_append_ptrs {w : World} {ops : Array Oper} {rest : List Oper} {o : Oper} {a : Act} {Q : Exit → Act → World → Prop} (hw : Region.wanted o (yielded ops a.tmps) = true) (s x : Operand)
    (ho : o.op = .call { callee := .builtin .append, args := #[s, x], argTypes := #[50, 50] })
    (base : Nat) (v : Value) (bs : List Nat) (hs : a.eval s = v) (hown : PRow w base v bs)
    (ax : Option Addr) (m c : Nat) (cs : List Nat) (hx : a.eval x = .slice ax m c) (hl : Ptrs w ax m c cs) (hb : bs.length + m ≤ 1048576) (hbase : base ≤ w.heap.size)
    (h : ∀ v' w', PRow w' base v' (bs ++ cs) → w.grownBy w' v.ownBlock → wpList Tryz.prog ops Q rest (a.put o.dst v') w') : wpList Tryz.prog ops Q (o :: rest) a w := by
  obtain ⟨i0, hi, hz0, hz1, hz2⟩ := info_parts info_ptr
  refine wpList_step fun K hK => ?_
  rw [if_pos hw]
  have hm := hl.len
  cases ax with
  | none =>
    have h0 : m = 0 := by
      rcases hl.2.2.2 with e | ⟨b, off, _, _, e, _⟩
      · exact e
      · cases e
    subst h0
    have e0 : cs = [] := List.eq_nil_of_length_eq_zero hm
    subst e0
    have hrun := run_append_nothing (P := Tryz.prog) (w := w) base 50 o.type 46 i0 1 c Tryz.underlying50 hi v bs.length _ hown
    unfold Oper.wp
    simp [execOp, ho, resolve, invoke, builtin, hs, hx, hrun, Result.andThen]
    refine hK _ _ (h v w ?_ (gb_refl _ _))
    simpa using hown
  | some ad =>
    refine wp_append_own w s x 50 ho base 46 i0 _ 1 8 Tryz.underlying50 hi hz0 hz1 hz2 rfl (by omega) v bs.length _ hs hown ad m c (cs.map ptr) hx (by rw [List.length_map, hm]; omega) (hl.src ad rfl) (by intro u hu; obtain ⟨q, _, rfl⟩ := List.mem_map.1 hu; rfl) (by unfold maxLen; omega) (by omega) hbase ?_
    intro v' w' h2 h3 _
    refine hK _ _ (h v' w' ?_ h3)
    unfold PRow
    rw [List.length_append, List.map_append, hm]; exact h2
/-- What an append leaves of chunks, of rows, of what was there. -/
theorem Chs.app_keep {w w' : World} {sz : Int} {L : List (Nat × List (Int × Int))} {base : Nat} {v : Value} {bs : List Nat} (h : Chs w sz L) (hown : PRow w base v bs) (g : w.grownBy w' v.ownBlock) : Chs w' sz L :=
  h.keepP g fun r hr => (hown.own r hr).2
theorem PRow.bel {w w' w0 : World} {B base : Nat} {v : Value} {bs : List Nat} (hb : Below B w0 w) (hs : B ≤ w.heap.size) (hown : PRow w base v bs) (hB : B ≤ base) (g : w.grownBy w' v.ownBlock) : Below B w0 w' :=
  hb.grown g hs (fun k hk => Nat.le_trans hB (hown.own k hk).1)
theorem PRow.gb {w w' w0 : World} {r : Nat} {base : Nat} {v : Value} {bs : List Nat} (hb : w0.grownBy w (some r)) (hown : PRow w base v bs) (hB : w0.heap.size ≤ base) (g : w.grownBy w' v.ownBlock) : w0.grownBy w' (some r) :=
  ⟨g.os.trans hb.os, g.tape.trans hb.tape, g.output.trans hb.output, Nat.le_trans hb.size g.size, fun k hk hr => (g.block k (Nat.lt_of_lt_of_le hk hb.size) (fun e => by have := (hown.own k e.symm).1; omega)).trans (hb.block k hk hr)⟩

end Go.Proofs.YtpbhdlhbcfkhfaaGreat
