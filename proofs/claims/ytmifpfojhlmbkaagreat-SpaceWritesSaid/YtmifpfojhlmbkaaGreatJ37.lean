/-
  Contracts.
-/
import Derived.Test.YtmifpfojhlmbkaaGreatJ6
import Derived.Test.YtmifpfojhlmbkaaGreatJ10
import Derived.Test.YtmifpfojhlmbkaaGreatJ35
import Derived.Lib.SliceRun
import Derived.Shelf.Abstract
namespace Go.Proofs.YtmifpfojhlmbkaaGreat
open Lib (hid)
set_option maxRecDepth 100000
set_option maxHeartbeats 16000000
open Go.RowKit Go.Shelf
set_option linter.unusedVariables false
set_option linter.unusedSimpArgs false
theorem gsl_l2 (b n c k : Nat) (hk : k ≤ n) (hc : n ≤ c) (hne : k ≠ c) (W : World) : (Instr.slice 38 (.slice (some ⟨b, 0, none⟩) n c) (some (.int .i64 (k : Int))) none none).run Tryz.prog W = .ok (.slice (some ⟨b, k * 5, none⟩) (n - k) (c - k)) W := by
  rw [run_slice_l W 38 _ _ _ (by kernel_rfl) .i64 (k : Int) (by omega) (by omega), size_gu]
  simp [Result.andThen, sliced, Addr.add, hne.symm]
  omega
theorem gsl_h2 (a : Option Addr) (n c k : Nat) (hk : k ≤ c) (W : World) : (Instr.slice 38 (.slice a n c) none (some (.int .i64 (k : Int))) none).run Tryz.prog W = .ok (.slice a k c) W := by
  rw [run_slice_h W 38 _ _ _ (by kernel_rfl) .i64 (k : Int) (by omega) (by omega), size_gu]
  cases a <;> simp [Result.andThen, sliced, Addr.add]
theorem take_snoc_u {l : List Ru} {j : Nat} (h : j < l.length) : l.take (j + 1) = l.take j ++ [uA l j] := by rw [List.take_succ_eq_append_getElem h, uA_get h]
theorem drop_cons_u {l : List Ru} {j : Nat} (h : j < l.length) : l.drop j = uA l j :: l.drop (j + 1) := by rw [uA_get h]; exact List.drop_eq_getElem_cons h
theorem out_hit {l : List Ru} {r : Ru} {j : Nat} (h : j < l.length) (e : uA l j = r) : outU (l.take (j + 1)) r = outU (l.take j) r := by
  rw [take_snoc_u h]; unfold outU; rw [List.filter_append]; simp [e]
theorem out_keep {l : List Ru} {r : Ru} {j : Nat} (h : j < l.length) (e : uA l j ≠ r) : outU (l.take (j + 1)) r = outU (l.take j) r ++ [uA l j] := by
  rw [take_snoc_u h]; unfold outU; rw [List.filter_append]; simp [e]
theorem out_none {l : List Ru} {r : Ru} {k : Nat} (hk : k ≤ l.length) (h : ∀ t, t < k → uA l t ≠ r) : outU (l.take k) r = l.take k := by
  refine List.filter_eq_self.2 fun x hx => decide_eq_true fun e => ?_
  obtain ⟨t, ht, rfl⟩ := List.getElem_of_mem hx
  have h1 : t < k := by rw [List.length_take] at ht; omega
  have := h t h1
  rw [uA_get (by omega)] at this
  rw [List.getElem_take] at e
  exact this e
theorem tk_any (x r : Ru) (B : Nat) (w : World) (hB : BoxU 32 w B r) :
    Calls Tryz.prog 208 #[ruV x, .pointer (some ⟨B, 0, none⟩)] w fun e w' => e = .returned (.bool (decide (x = r))) ∧ Below w.heap.size w w' := by
  have B1 := (Below.refl w.heap.size w).alloc (Nat.le_refl _) (.cells #[.string (bs x.src), .string (bs x.dst), .int .i64 x.kind, .int .i64 x.size, .int .i64 x.align] 32)
  have X := BoxU.new 32 w x
  have Y := hB.keep B1
  have x0 := X.x0
  have x1 := X.x1
  have x2 := X.x2
  have x3 := X.x3
  have x4 := X.x4
  have y0 := Y.x0
  have y1 := Y.x1
  have y2 := Y.x2
  have y3 := Y.x3
  have y4 := Y.x4
  have heq := fun W => run_eq_gu W x r
  unfold ruV at heq ⊢
  have HB := hid B1
  clear X Y hB B1
  generalize decide (x = r) = b at *
  generalize bs x.src = a0 at *
  generalize bs x.dst = a1 at *
  generalize x.kind = a2 at *
  generalize x.size = a3 at *
  generalize x.align = a4 at *
  generalize bs r.src = b0 at *
  generalize bs r.dst = b1 at *
  generalize r.kind = b2 at *
  generalize r.size = b3 at *
  generalize r.align = b4 at *
  go_enter Tryz.func208, Tryz.ntmps208
  go_wp2
  go_ret
  exact ⟨rfl, HB.out⟩
theorem tk_x (x r : Ru) (B : Nat) (w : World) (hB : BoxU 32 w B r) :
    Calls Tryz.prog 208 #[.agg #[.string (bs x.src), .string (bs x.dst), .int .i64 x.kind, .int .i64 x.size, .int .i64 x.align], .pointer (some ⟨B, 0, none⟩)] w fun e w' => e = .returned (.bool (decide (x = r))) ∧ Below w.heap.size w w' := tk_any x r B w hB
def IdxP (l : List Ru) (r : Ru) (w : World) (e : Ending) (w' : World) : Prop := ∃ k : Nat, e = .returned (.int .i64 (k : Int)) ∧ k < l.length ∧ uA l k = r ∧ (∀ t, t < k → uA l t ≠ r) ∧ Below w.heap.size w w'
theorem gindex_any (a : Option Addr) (n c B : Nat) (l : List Ru) (r : Ru) (w : World) (h : RuAt w a n c l) (hn : n ≤ 1000) (hB : BoxU 32 w B r) (hr : r ∈ l) :
    Calls Tryz.prog 263 #[.slice a n c, .func (.func 208) #[] #[.pointer (some ⟨B, 0, none⟩)]] w (IdxP l r w) := by
  have eg : ∀ args w, (callFunc 208 args).run Tryz.prog w = .ok (.enter 208 args) w := enters_of Tryz.func208 (by kernel_rfl) rfl
  have HL := hid h.1
  have H := hid h
  have HB := hid hB
  have HR := hid hr
  clear h hB hr
  go_enter Tryz.func263, Tryz.ntmps263
  go_wp2
  go_loopw [8] (fun i wr => ∃ j : Nat, j ≤ n ∧ i = .int .i64 (j : Int) ∧ Hid (∀ t, t < j → uA l t ≠ r) ∧ Below w.heap.size w wr) (fun i _ => n - (intOf i).toNat)
  case atStart => exact ⟨0, Nat.zero_le _, rfl, hid (fun t ht => absurd ht (Nat.not_lt_zero _)), Below.refl _ _⟩
  case round =>
    obtain ⟨j, hj, rfl, HN, B1⟩ := hrel
    by_cases hjn : j < n
    · have hjz : (j : Int) < (n : Int) := by omega
      have hj0 : (0 : Int) ≤ (j : Int) := by omega
      obtain ⟨b, off, rfl, hb, x0, x1, x2, x3, x4⟩ := (H.out.keep B1).at_ j hjn
      have HT := hid (fun W (hW : BoxU 32 W B r) => tk_x (uA l j) r B W hW)
      have HBw := hid (HB.out.keep B1)
      by_cases he : uA l j = r
      · have HE := hid he
        rw [decide_eq_true he] at HT
        clear he
        generalize bs (uA l j).src = u0 at *
        generalize bs (uA l j).dst = u1 at *
        generalize (uA l j).kind = u2 at *
        generalize (uA l j).size = u3 at *
        generalize (uA l j).align = u4 at *
        go_wp2_with fail
        refine (HT.out _ HBw.out).mono ?_
        rintro e w2 ⟨rfl, b2⟩
        have B2 := bel_gbn B1 B1.size (gb_below b2)
        clear b2 B1 x0 x1 x2 x3 x4
        go_wp2
        go_ret
        exact ⟨j, rfl, by rw [HL.out]; exact hjn, HE.out, HN.out, B2⟩
      · have HE := hid he
        rw [decide_eq_false he] at HT
        clear he
        have HN2 := hid (show ∀ t, t < j + 1 → uA l t ≠ r from fun t ht => by
          by_cases q : t = j
          · subst q; exact HE.out
          · exact HN.out t (by omega))
        clear HE
        generalize bs (uA l j).src = u0 at *
        generalize bs (uA l j).dst = u1 at *
        generalize (uA l j).kind = u2 at *
        generalize (uA l j).size = u3 at *
        generalize (uA l j).align = u4 at *
        go_wp2_with fail
        refine (HT.out _ HBw.out).mono ?_
        rintro e w2 ⟨rfl, b2⟩
        have B2 := bel_gbn B1 B1.size (gb_below b2)
        clear b2 B1 x0 x1 x2 x3 x4
        go_wp2
        go_roundw
        case rel => exact ⟨j + 1, by omega, by go_num, HN2, B2⟩
        case measure => simp [intOf]; omega
    · exfalso
      obtain ⟨t, ht, e⟩ := uA_ex HR.out
      rw [HL.out] at ht
      exact HN.out t (by omega) e.symm
theorem run_clear_row {P : Program} (w : World) (t e ty : TypeId) (z : Value) (sz : Nat) (ht : P.underlying t = some (.slice e)) (hv : ∀ w, (zeroValue e).run P w = .ok z w) (hz : z.cells.size = sz) (b o n c : Nat) (hn : 0 < n) (cur : Array Value) (te : TypeId)
    (hg : w.heap[b]? = some (.cells cur te (0, 0))) (hfit : o + n * sz ≤ cur.size) (h1 : ∀ u ∈ (Builtin.zeroCells z.cells n).toList, u.oneCell' = true) :
    (Builtin.clear_ #[t] ty #[.slice (some ⟨b, o, none⟩) n c]).run P w = .ok (.tuple #[]) (w.setRow b (splice cur.toList o (Builtin.zeroCells z.cells n).toList).toArray) := by
  have hl : (Builtin.zeroCells z.cells n).toList.length = n * sz := by rw [Array.length_toList, size_zeroCells, hz]
  have hst := run_storeCells_at P b o te (Builtin.zeroCells z.cells n).toList 0 cur w hg (by rw [hl]; omega) h1
  simp only [Nat.add_zero] at hst
  obtain ⟨m, rfl⟩ : ∃ m, n = m + 1 := ⟨n - 1, by omega⟩
  simp [Builtin.clear_, run_underlying ht, hv, hst, splice]
theorem zero_one (n : Nat) : ∀ u ∈ (Builtin.zeroCells (Value.agg #[.string ⟨#[]⟩, .string ⟨#[]⟩, .int .i64 0, .int .i64 0, .int .i64 0]).cells n).toList, u.oneCell' = true := by
  intro u hu
  unfold Builtin.zeroCells at hu
  simp only [Array.toList_map, List.mem_map] at hu
  obtain ⟨i, _, rfl⟩ := hu
  have hlt : i % (Value.agg #[.string ⟨#[]⟩, .string ⟨#[]⟩, .int .i64 0, .int .i64 0, .int .i64 0]).cells.size < 5 := Nat.mod_lt _ (by decide)
  generalize i % (Value.agg #[.string ⟨#[]⟩, .string ⟨#[]⟩, .int .i64 0, .int .i64 0, .int .i64 0]).cells.size = q at *
  have : q = 0 ∨ q = 1 ∨ q = 2 ∨ q = 3 ∨ q = 4 := by omega
  rcases this with rfl | rfl | rfl | rfl | rfl <;> rfl
theorem set5 {A B : List Value} {m0 m1 m2 m3 m4 v0 v1 v2 v3 v4 : Value} {o : Nat} (h : A.length = o) :
    ((((((A ++ m0 :: m1 :: m2 :: m3 :: m4 :: B).toArray.setIfInBounds o v0).setIfInBounds (o + 1) v1).setIfInBounds (o + 2) v2).setIfInBounds (o + 3) v3).setIfInBounds (o + 4) v4) = (A ++ v0 :: v1 :: v2 :: v3 :: v4 :: B).toArray := by
  subst h
  apply Array.ext'
  simp [List.set_append_right]
theorem frame_set5 {w : World} {g o : Nat} {v0 v1 v2 v3 v4 : Value} {τ : TypeId} {A B : List Value} {m0 m1 m2 m3 m4 : Value} (hA : A.length = o)
    (hg : w.heap[g]? = some (.cells (A ++ m0 :: m1 :: m2 :: m3 :: m4 :: B).toArray τ (0, 0))) :
    (((((w.setCell ⟨g, o, none⟩ v0).setCell ⟨g, o + 1, none⟩ v1).setCell ⟨g, o + 2, none⟩ v2).setCell ⟨g, o + 3, none⟩ v3).setCell ⟨g, o + 4, none⟩ v4).heap[g]? = some (.cells (A ++ v0 :: v1 :: v2 :: v3 :: v4 :: B).toArray τ (0, 0)) := by
  rw [← set5 hA]
  exact heap_set (heap_set (heap_set (heap_set (heap_set hg))))
theorem gb_set5 {w0 w : World} {g o : Nat} {v0 v1 v2 v3 v4 : Value} (h : w0.grownBy w (some g)) :
    w0.grownBy (((((w.setCell ⟨g, o, none⟩ v0).setCell ⟨g, o + 1, none⟩ v1).setCell ⟨g, o + 2, none⟩ v2).setCell ⟨g, o + 3, none⟩ v3).setCell ⟨g, o + 4, none⟩ v4) (some g) :=
  gb_set (gb_set (gb_set (gb_set (gb_set h _ _) _ _) _ _) _ _) _ _
theorem splice_mid2 {A B cs : List Value} {n : Nat} (h : A.length = n) : splice (A ++ B) n cs = A ++ (cs ++ B.drop cs.length) := by
  subst h
  unfold splice
  rw [List.take_left, List.drop_append, List.drop_of_length_le (by omega)]
  simp
def DelAt (w : World) (g : Nat) (l : List Ru) (r : Ru) (R : List Value) (i j : Nat) : Prop :=
  ∃ M : List Value, w.heap[g]? = some (.cells (ruCs (outU (l.take j) r) ++ (M ++ (ruCs (l.drop j) ++ R))).toArray 32 (0, 0)) ∧ M.length = (j - i) * 5 ∧ i = (outU (l.take j) r).length ∧ i < j
theorem DelAt.same {w w' : World} {g : Nat} {l : List Ru} {r : Ru} {R : List Value} {i j : Nat} (h : DelAt w g l r R i j) (e : w'.heap[g]? = w.heap[g]?) : DelAt w' g l r R i j := by
  obtain ⟨M, h1, h2⟩ := h
  exact ⟨M, e.trans h1, h2⟩
theorem DelAt.hit {w : World} {g : Nat} {l : List Ru} {r : Ru} {R : List Value} {i j : Nat} (h : DelAt w g l r R i j) (hj : j < l.length) (e : uA l j = r) : DelAt w g l r R i (j + 1) := by
  obtain ⟨M, h1, h2, h3, h4⟩ := h
  refine ⟨M ++ ruC (uA l j), ?_, ?_, ?_, by omega⟩
  · rw [out_hit hj e, h1, drop_cons_u hj, ruCs_cons]
    simp only [List.append_assoc]
  · rw [List.length_append, h2]; show _ + 5 = _; omega
  · rw [out_hit hj e]; exact h3
theorem DelAt.next {w : World} {g : Nat} {l : List Ru} {r : Ru} {R : List Value} {i j : Nat} (h : DelAt w g l r R i j) (hj : j < l.length) : U5 w g (j * 5) (uA l j) := by
  obtain ⟨M, h1, h2, h3, h4⟩ := h
  refine .of fun t v ht => ?_
  have ht5 : t < 5 := (List.getElem?_eq_some_iff.1 ht).1
  have e1 : (ruCs (outU (l.take j) r)).length = i * 5 := by rw [ruCs_len, ← h3]
  rw [cell_of h1, List.getElem?_toArray, List.getElem?_append_right (by omega), List.getElem?_append_right (by omega), e1, h2, show j * 5 + t - i * 5 - (j - i) * 5 = t from by omega, drop_cons_u hj, ruCs_cons, List.append_assoc, List.getElem?_append_left ht5]
  exact ht
theorem five {M : List Value} {n : Nat} (h : M.length = n * 5) (hn : 0 < n) : ∃ m0 m1 m2 m3 m4 B, M = m0 :: m1 :: m2 :: m3 :: m4 :: B ∧ B.length = (n - 1) * 5 := by
  match M, h with
  | [], h => simp at h; omega
  | [_], h => simp at h; omega
  | [_, _], h => simp at h; omega
  | [_, _, _], h => simp at h; omega
  | [_, _, _, _], h => simp at h; omega
  | a :: b :: c :: d :: e :: B, h => exact ⟨a, b, c, d, e, B, rfl, by simp at h; omega⟩
theorem DelAt.keep {w : World} {g : Nat} {l : List Ru} {r : Ru} {R : List Value} {i j : Nat} (h : DelAt w g l r R i j) (hj : j < l.length) (e : uA l j ≠ r) :
    DelAt (((((w.setCell ⟨g, i * 5, none⟩ (.string (bs (uA l j).src))).setCell ⟨g, i * 5 + 1, none⟩ (.string (bs (uA l j).dst))).setCell ⟨g, i * 5 + 2, none⟩ (.int .i64 (uA l j).kind)).setCell ⟨g, i * 5 + 3, none⟩ (.int .i64 (uA l j).size)).setCell ⟨g, i * 5 + 4, none⟩ (.int .i64 (uA l j).align)) g l r R (i + 1) (j + 1) := by
  obtain ⟨M, h1, h2, h3, h4⟩ := h
  obtain ⟨m0, m1, m2, m3, m4, B, rfl, hB⟩ := five h2 (by omega)
  have e1 : (ruCs (outU (l.take j) r)).length = i * 5 := by rw [ruCs_len, ← h3]
  simp only [List.cons_append] at h1
  refine ⟨B ++ ruC (uA l j), ?_, ?_, ?_, by omega⟩
  · have hs := frame_set5  (v0 := .string (bs (uA l j).src)) (v1 := .string (bs (uA l j).dst)) (v2 := .int .i64 (uA l j).kind) (v3 := .int .i64 (uA l j).size) (v4 := .int .i64 (uA l j).align) e1 h1
    refine hs.trans ?_
    rw [out_keep hj e, ruCs_app, drop_cons_u hj, ruCs_cons, ruCs_cons, ruCs_nil]
    simp only [List.append_assoc, List.cons_append, List.nil_append, ruC, List.append_nil]
  · rw [List.length_append, hB]; show _ + 5 = _; omega
  · rw [out_keep hj e, List.length_append, ← h3]; rfl
theorem DelAt.place {w : World} {g : Nat} {l : List Ru} {r : Ru} {R : List Value} {i j : Nat} (h : DelAt w g l r R i j) : (∀ t, t < 5 → ∃ v, w.cell? ⟨g, i * 5 + t, none⟩ = some v) ∧ ∀ o, w.frozen? ⟨g, o, none⟩ = false := by
  obtain ⟨M, h1, h2, h3, h4⟩ := h
  refine ⟨fun t ht => ?_, fun o => frozen_of h1⟩
  rw [cell_of h1, List.getElem?_toArray]
  have e1 : (ruCs (outU (l.take j) r)).length = i * 5 := by rw [ruCs_len, ← h3]
  exact ⟨_, List.getElem?_eq_getElem (by rw [List.length_append, List.length_append, e1, h2]; omega)⟩
theorem gdel_any (g n cap B : Nat) (l : List Ru) (r : Ru) (w : World) (h : URow 32 w 0 (.slice (some ⟨g, 0, none⟩) n cap) l) (hln : l.length = n) (hn : n ≤ 1000) (hB : BoxU 32 w B r) (hBg : B ≠ g) (hr : r ∈ l) :
    Calls Tryz.prog 207 #[.slice (some ⟨g, 0, none⟩) n cap, .func (.func 208) #[] #[.pointer (some ⟨B, 0, none⟩)]] w fun e w' =>
      e = .returned (.slice (some ⟨g, 0, none⟩) (outU l r).length cap) ∧ URow 32 w' 0 (.slice (some ⟨g, 0, none⟩) (outU l r).length cap) (outU l r) ∧ w.grownBy w' (some g) := by
  have eg : ∀ args w, (callFunc 208 args).run Tryz.prog w = .ok (.enter 208 args) w := enters_of Tryz.func208 (by kernel_rfl) rfl
  have hl0 : l ≠ [] := fun e => by subst e; cases hr
  obtain ⟨g', cap', cur, ev, _, hg, hle, hcm, hsz, htk⟩ := h.solid hl0
  simp only [Value.slice.injEq, Option.some.injEq, Addr.mk.injEq] at ev
  obtain ⟨⟨rfl, _, _⟩, rfl, rfl⟩ := ev
  obtain ⟨a', c', ea, hat, _⟩ := h.shape
  simp only [Value.slice.injEq] at ea
  obtain ⟨rfl, _, rfl⟩ := ea
  have HI := hid (gindex_any (some ⟨g, 0, none⟩) l.length cap B l r w hat hn hB hr)
  obtain ⟨cl, rfl⟩ : ∃ cl : List Value, cur = cl.toArray := ⟨cur.toList, (Array.toArray_toList).symm⟩
  obtain ⟨R, hR⟩ : ∃ R, cl = ruCs l ++ R := ⟨cl.drop (l.length * 5), by
    have htk' : cl.take (l.length * 5) = ruCs l := htk
    rw [← htk']; exact (List.take_append_drop ..).symm⟩
  subst hR
  have hRl : R.length = (cap - l.length) * 5 := by simp only [List.size_toArray, List.length_append, ruCs_len] at hsz; omega
  have hD0 : ∀ (k : Nat) (W : World), W.heap[g]? = w.heap[g]? → k < l.length → uA l k = r → (∀ t, t < k → uA l t ≠ r) → DelAt W g l r R k (k + 1) := fun k W hW hk e hno => by
    refine ⟨ruC r, ?_, by show 5 = _; omega, ?_, by omega⟩
    · rw [hW, hg, out_hit hk e, out_none (by omega) hno]
      congr 3
      conv => lhs; rw [← List.take_append_drop k l]
      rw [ruCs_app, drop_cons_u hk, ruCs_cons, e]
      simp only [List.append_assoc]
    · rw [out_hit hk e, out_none (by omega) hno, List.length_take]; omega
  have HD0 := hid hD0
  have HB := hid hB
  have HBl := hB.lt
  have hgl := heap_lt hg
  have HCM := hid hcm
  have HRL := hid hRl
  have HT := hid (fun (x : Ru) W (hW : BoxU 32 W B r) => tk_x x r B W hW)
  clear h hg hat hsz htk hB hr hl0 hcm hRl hD0
  go_enter Tryz.func207, Tryz.ntmps207
  go_wp2_with fail
  refine HI.out.mono ?_
  rintro e w1 ⟨k, rfl, hk, hkr, hno, b1⟩
  have D1 := hid (HD0.out k w1 (b1.block g hgl) hk hkr hno)
  have G1 := hid (show w.grownBy w1 (some g) from gb_below b1)
  have hk0 : ((k : Int) == -1) = false := beq_eq_false_iff_ne.2 (by omega)
  clear HI HD0 b1 hkr hno
  obtain ⟨n, hn'⟩ : ∃ n, l.length = n := ⟨_, rfl⟩
  have HN := hid hn'
  rw [hn'] at hk hn hle HRL ⊢
  clear hn'
  go_wp2
  go_loopw [5, 6] (fun i j wr => ∃ (a b : Nat), i = .int .i64 (a : Int) ∧ j = .int .i64 (b : Int) ∧ a < b ∧ b ≤ n ∧ Hid (DelAt wr g l r R a b) ∧ Hid (w.grownBy wr (some g))) (fun _ j _ => n - (intOf j).toNat)
  case atStart => exact ⟨k, k + 1, rfl, by go_num, by omega, by omega, D1, G1⟩
  case round =>
    obtain ⟨a, b, rfl, rfl, hab, hbn, D, G⟩ := hrel
    clear D1 G1
    have BW := hid (show BoxU 32 wr B r from by unfold BoxU; rw [G.out.block B HBl (by simpa using hBg)]; exact HB.out)
    by_cases hbl : b < n
    · have hbz : (b : Int) < (n : Int) := by omega
      have hb0 : (0 : Int) ≤ (b : Int) := by omega
      obtain ⟨x0, x1, x2, x3, x4⟩ := D.out.next (by rw [HN.out]; exact hbl)
      have HTx := hid (fun W hW => HT.out (uA l b) W hW)
      have B1 := (Below.refl wr.heap.size wr).alloc (Nat.le_refl _) (.cells #[.string (bs (uA l b).src), .string (bs (uA l b).dst), .int .i64 (uA l b).kind, .int .i64 (uA l b).size, .int .i64 (uA l b).align] 32)
      have Y1 := hid (BoxU.new 32 wr (uA l b))
      have D1 := hid (D.out.same (B1.block g (Nat.lt_of_lt_of_le hgl G.out.size)))
      have G1 := hid (gb_trans G.out (gb_below B1))
      have BW1 := hid (BW.out.keep B1)
      have hgw : g < wr.heap.size := Nat.lt_of_lt_of_le hgl G.out.size
      by_cases he : uA l b = r
      · have D2 := hid (D1.out.hit (by rw [HN.out]; exact hbl) he)
        rw [decide_eq_true he] at HTx
        clear he B1 D D1 BW Y1
        generalize uA l b = x at *
        go_wp2_with fail
        refine (HTx.out _ BW1.out).mono ?_
        rintro e w2 ⟨rfl, b2⟩
        have D3 := hid (D2.out.same (b2.block g (by simp; omega)))
        have G3 := hid (gb_trans G1.out (gb_below b2))
        clear b2 D2 G1 BW1 x0 x1 x2 x3 x4 HTx G
        go_wp2
        go_roundw
        case rel => exact ⟨a, b + 1, rfl, by go_num, by omega, by omega, D3, G3⟩
        case measure => simp [intOf]; omega
      · have HK := hid (fun W (hD : DelAt W g l r R a b) => hD.keep (by rw [HN.out]; exact hbl) he)
        rw [decide_eq_false he] at HTx
        clear he B1 D BW
        generalize uA l b = x at *
        go_wp2_with fail
        refine (HTx.out _ BW1.out).mono ?_
        rintro e w2 ⟨rfl, b2⟩
        have D3 := hid (D1.out.same (b2.block g (by simp; omega)))
        have G3 := hid (gb_trans G1.out (gb_below b2))
        have Y3 := Y1.out.keep b2
        have y0 := Y3.x0
        have y1 := Y3.x1
        have y2 := Y3.x2
        have y3 := Y3.x3
        have y4 := Y3.x4
        obtain ⟨pc, pf⟩ := D3.out.place
        obtain ⟨m0, c0⟩ := pc 0 (by omega)
        obtain ⟨m1, c1⟩ := pc 1 (by omega)
        obtain ⟨m2, c2⟩ := pc 2 (by omega)
        obtain ⟨m3, c3⟩ := pc 3 (by omega)
        obtain ⟨m4, c4⟩ := pc 4 (by omega)
        rw [Nat.add_zero] at c0
        have f0 := pf (a * 5)
        have f1 := pf (a * 5 + 1)
        have f2 := pf (a * 5 + 2)
        have f3 := pf (a * 5 + 3)
        have f4 := pf (a * 5 + 4)
        have D4 := hid (HK.out w2 D3.out)
        have G4 := hid (gb_set5 (o := a * 5) (v0 := .string (bs x.src)) (v1 := .string (bs x.dst)) (v2 := .int .i64 x.kind) (v3 := .int .i64 x.size) (v4 := .int .i64 x.align) G3.out)
        have haz : (a : Int) < (n : Int) := by omega
        have ha0 : (0 : Int) ≤ (a : Int) := by omega
        generalize wr.heap.size = Bx at *
        clear b2 D1 D3 G1 G3 BW1 x0 x1 x2 x3 x4 HTx G Y1 Y3 HK pc pf
        go_wp2
        go_roundw
        case rel => exact ⟨a + 1, b + 1, by go_num, by go_num, by omega, by omega, D4, G4⟩
        case measure => simp [intOf]; omega
    · have hbz : ¬ (b : Int) < (n : Int) := by omega
      obtain rfl : b = n := by omega
      obtain ⟨M, hM, hMl, ha, _⟩ := D.out
      have hdn : l.drop b = [] := List.drop_of_length_le (by rw [HN.out]; exact Nat.le_refl _)
      have htn : l.take b = l := List.take_of_length_le (by rw [HN.out]; exact Nat.le_refl _)
      rw [hdn, htn, ruCs_nil, List.nil_append] at hM
      rw [htn] at ha
      have HA := hid ha
      have hOl : (ruCs (outU l r)).length = a * 5 := by rw [ruCs_len, ← ha]
      have hsl1 := gsl_l2 g b cap a (by omega) hle (by omega)
      have hsl2 := gsl_h2 (some ⟨g, 0, none⟩) b cap a (by omega)
      have hzl : (Builtin.zeroCells (Value.agg #[.string ⟨#[]⟩, .string ⟨#[]⟩, .int .i64 0, .int .i64 0, .int .i64 0]).cells (b - a)).toList.length = (b - a) * 5 := by rw [Array.length_toList, size_zeroCells]; rfl
      have hcl := fun ty => run_clear_row (P := Tryz.prog) wr 38 32 ty (Value.agg #[.string ⟨#[]⟩, .string ⟨#[]⟩, .int .i64 0, .int .i64 0, .int .i64 0]) 5 Tryz.underlying38 (fun w => Tryz.zeroValue32 w) rfl g (a * 5) (b - a) (cap - a) (by omega) _ _ hM (by rw [List.size_toArray, List.length_append, hOl, List.length_append, hMl, HRL.out]; omega) (zero_one _)
      generalize hzz : (Builtin.zeroCells (Value.agg #[.string ⟨#[]⟩, .string ⟨#[]⟩, .int .i64 0, .int .i64 0, .int .i64 0]).cells (b - a)).toList = Z at *
      have h3 := setRow_heap wr g _ (splice (ruCs (outU l r) ++ (M ++ R)) (a * 5) Z).toArray _ _ hM
      have g3 : w.grownBy (wr.setRow g (splice (ruCs (outU l r) ++ (M ++ R)) (a * 5) Z).toArray) (some g) := gb_trans G.out ⟨rfl, rfl, rfl, by simp [World.setRow], fun k hk hr => setRow_other wr g k _ (by intro e; exact hr (by rw [e]))⟩
      have HRW : Hid (URow 32 (wr.setRow g (splice (ruCs (outU l r) ++ (M ++ R)) (a * 5) Z).toArray) 0 (.slice (some ⟨g, 0, none⟩) a cap) (outU l r)) := hid (by
        unfold URow
        rw [← ha]
        rw [splice_mid2 hOl] at h3 ⊢
        refine ⟨hOl, .inr ⟨g, cap, _, rfl, Nat.zero_le _, h3, by omega, HCM.out, ?_, ?_⟩⟩
        · rw [List.size_toArray, List.length_append, List.length_append, hOl, hzl, List.length_drop, List.length_append, hMl, HRL.out]; omega
        · rw [← hOl]; exact List.take_left)
      have HG3 := hid g3
      clear h3 g3 hM hMl ha hdn htn hOl hzl hzz D G HT HB HN HRL
      simp only [List.toList_toArray] at hcl
      generalize hW3 : wr.setRow g (splice (ruCs (outU l r) ++ (M ++ R)) (a * 5) Z).toArray = W3 at *
      clear hW3
      go_wp2
      go_ret
      rw [← HA.out]
      exact ⟨rfl, HRW.out, HG3.out⟩
open Go.RowKit
def Two (w : World) (x B0 bf : Nat) (s : Tx) : Prop := w.cell? ⟨x, 1, none⟩ = some (mp bf) ∧ w.cell? ⟨B0, 0, none⟩ = some (.string (bs s))
theorem Six.two {w : World} {x B0 bf : Nat} {r : Ru} (h : Six w x B0 bf r) : Two w x B0 bf r.src := ⟨h.1, h.2.1⟩
theorem six_keep {w w' : World} {x B0 bf g : Nat} {r : Ru} (k : Six w x B0 bf r) (h : w.grownBy w' (some g)) (h1 : g ≠ x) (h2 : g ≠ B0) : Six w' x B0 bf r := by
  have t := Tu.gb (F := fun i => i = g) h rfl
  obtain ⟨h0, a1, a2, a3, a4, a5⟩ := k
  exact ⟨t.cell h0 (fun e => h1 (show x = g from e).symm), t.cell a1 (fun e => h2 (show B0 = g from e).symm), t.cell a2 (fun e => h2 (show B0 = g from e).symm), t.cell a3 (fun e => h2 (show B0 = g from e).symm), t.cell a4 (fun e => h2 (show B0 = g from e).symm), t.cell a5 (fun e => h2 (show B0 = g from e).symm)⟩
theorem gtake_ok (w : World) (x bi bf : Nat) (F : Nat → Prop) (L : List Ru) (r : Ru) (h : GrAt w x bi bf F L) (hL : L.length ≤ 1000) (hr : r ∈ L) :
    Calls Tryz.prog 139 #[.pointer (some ⟨x, 0, none⟩), ruV r] w fun e w' => e = .returned (.tuple #[]) ∧ ∃ F', GrTurn w w' x bi bf F F' (outU L r) := by
  have hG := hid (show GoodU (outU L r) from h.good.filter _)
  have hI := hid (into_out h.good hr)
  have hLen : (ofL L r.src).length ≤ 1000 := Nat.le_trans (ofL_le _ _) hL
  have hrs : r ∈ ofL L r.src := mem_ofL.2 ⟨hr, rfl⟩
  have hl0 : ofL L r.src ≠ [] := fun e => by rw [e] at hrs; cases hrs
  have B1 := (Below.refl w.heap.size w).alloc (Nat.le_refl _) (.cells #[.string (bs r.src), .string (bs r.dst), .int .i64 r.kind, .int .i64 r.size, .int .i64 r.align] 32)
  have X1 := BoxU.new 32 w r
  have M1 := h.mid.keep B1
  have hBx : x < w.heap.size := h.xlt
  have HM0 := hid h.mid
  have HFU := hid h.full
  clear h hL hr
  unfold ruV
  go_enter Tryz.func139, Tryz.ntmps139
  go_wp2_with fail
  generalize hW1 : w.alloc (.cells #[.string (bs r.src), .string (bs r.dst), .int .i64 r.kind, .int .i64 r.size, .int .i64 r.align] 32) = W1 at *
  have HB1 := hid B1
  have HM1 := hid M1
  have HX1 := hid X1
  clear hW1 B1 M1 X1
  generalize hBB : w.heap.size = B0 at *
  refine wp_region_still_tail 6 (by kernel_rfl) (by kernel_rfl) ?_
  simp only [List.take_succ_cons, List.take_zero, List.drop_succ_cons, List.drop_zero]
  change wpStill _ _ W1.drew (fun a' => wpList _ _ _ _ a' W1.drew) _ _
  have B2 := hid HB1.out.drew
  have M2 := hid (HM1.out.keep ((Below.refl _ W1).drew))
  have X2 := hid (HX1.out.keep ((Below.refl _ W1).drew))
  generalize W1.drew = W2 at *
  clear HB1 HM1 HX1
  have c0 := M2.out.cell.c0
  have x1 := X2.out.x1
  repeat still_step
  refine wpStill_nil ?_
  obtain ⟨LI, i1, i2⟩ := M2.out.into
  have HI1 := hid i1
  have HI2 := hid i2
  clear i1 i2
  go_wp2_with (first
    | (at_delete; refine wpList_delete_m _ rfl _ _ 173 9 rfl 32 Tryz.underlying173 Tryz.underlying9 bi _ rfl HI1.out r.dst _ rfl rfl ?_; intro w3 hm3 g3 hs3))
  have M3 := hid (M2.out.turnI g3 (IntoAt.del HI2.out hm3 hI.out))
  have T3 := hid ((Tu.of (F := F) (by rw [hBB]; exact B2.out)).trans (Tu.gb g3 M2.out.fi) (fun _ _ f => f))
  have HFU3 := hid (show FullAt w3 bf (ofL L) from HFU.out.same ((g3.block bf M2.out.from_.lt (by simpa using fun e => M2.out.ne e.symm)).trans (B2.out.block bf (by have := HM0.out.from_.lt; omega))))
  have X3 := hid (X2.out.tu (Tu.gb (F := fun i => i = bi) g3 rfl) (fun e => by have := HM0.out.into.lt; omega))
  clear hm3 g3 hs3 HI1 HI2 M2 X2 B2 c0 x1
  obtain ⟨LF, K, f1, f2, f3⟩ := M3.out.from_
  obtain ⟨g, cap, cur, e0, _⟩ := (f3.row r.src).solid hl0
  have HU := hid (show URow 32 w3 0 (.slice (some ⟨g, 0, none⟩) (ofL L r.src).length cap) (ofL L r.src) from by rw [← e0]; exact f3.row r.src)
  obtain ⟨m, hm⟩ : ∃ m, (ofL L r.src).length = m := ⟨_, rfl⟩
  have HMl := hid hm
  rw [hm] at e0 HU hLen
  have hlk : (Instr.lookup 174 (.map (some bf)) (.string (bs r.src)) false).run Tryz.prog w3.drew = .ok (.slice (some ⟨g, 0, none⟩) m cap) w3.drew := by
    have h := (show MapAt w3.drew bf LF from f1.same rfl).lookup Tryz.underlying174 Tryz.underlying9 (Tryz.zeroValue38 _) r.src false
    rw [h, f2, ← e0]; rfl
  have S3 := hid (sixG M3.out.cell X3.out)
  have c1 := S3.out.1
  have x0 := S3.out.2.1
  have HF1 := hid f1
  have HF2 := hid f2
  have HF3 := hid f3
  have HE0 := hid e0
  obtain ⟨hgF, _, hgf⟩ := M3.out.own_ne f3 (show (kV K r.src).ownBlock = some g from by rw [e0]; rfl)
  have hgx : g ≠ x := fun e => M3.out.nx (e ▸ hgF)
  have hgB : B0 ≠ g := fun e => by have := HM0.out.lt g hgF; omega
  have HDE := hid (gdel_any g m cap B0 (ofL L r.src) r w3.drew (HU.out.keep (Below.refl _ w3).drew) HMl.out hLen (X3.out.keep (Below.refl _ w3).drew) hgB hrs)
  generalize hO : outU (ofL L r.src) r = O at *
  have HO := hid hO
  clear f1 f2 f3 e0 hm hO hl0 hrs
  go_wp2_with fail
  have S3d := hid (sixG (M3.out.keep (Below.refl _ w3).drew).cell (X3.out.keep (Below.refl _ w3).drew))
  go_region_held3 (fun w' => w'.cell? ⟨x, 1, none⟩ = some (mp bf) ∧ w'.cell? ⟨B0, 0, none⟩ = some (.string (bs r.src)))
    (first
      | exact HE7.out.two
      | exact HE6.out.two
      | go_keep)
    (first
      | (go_at_call 207
         (with_reducible refine HDE.out.mono ?_)
         rintro e W6 ⟨rfl, r6, g6⟩
         have HE6 := hid (six_keep S3d.out g6 hgx (fun e => hgB e.symm))
         have HM6 := hid ((HF1.out.keep ((Below.refl _ w3).drew)).gb g6 (fun e => hgf (by cases e; rfl)))
         obtain ⟨w7, hrun7, hm7, g7, hs7⟩ := HM6.out.update (P := Tryz.prog) Tryz.underlying174 Tryz.underlying9 r.src (.slice (some ⟨g, 0, none⟩) O.length cap)
         have HE7 := hid (cells_map HE6.out g7 HM6.out.isMap))
      | fail)
  all_goals
    have g6' := g6
    rw [show (some g : Option Nat) = (kV K r.src).ownBlock from by rw [HE0.out]; rfl] at g6'
    obtain ⟨e1, e2, e3⟩ := M3.out.putO HF2.out HF3.out ((Below.refl _ w3).drew) g6' r6 (fun q hq => by cases hq; exact .inr (by rw [HE0.out]; rfl)) hm7 g7 (O' := ofL (outU L r)) (fun j => by
      by_cases hj : j = r.src
      · rw [if_pos hj, hj, of_out]; exact HO.out
      · rw [if_neg hj]; exact of_out_ne hj)
    have E1 := hid e1
    have E2 := hid (show ∀ i, FO F (kV K r.src).ownBlock (Value.slice (some ⟨g, 0, none⟩) O.length cap) i → F i ∨ w.heap.size ≤ i from fun i hi => (e2 i hi).imp id (fun q => Nat.le_trans T3.out.size q))
    have E3 := hid (T3.out.trans e3 (fun _ _ f => f))
    have HFN := hid (fun (hs : ofL (outU L r) r.src ≠ []) => HFU3.out.ups HF1.out hm7 (fun j hj => of_out_ne hj) hs)
    have HFE := hid (fun (W : World) (LF2 : List (Tx × Value)) (m1 : MapAt w7 bf LF2) (m2 : MapAt W bf (dels LF2 r.src)) => show FullAt W bf (ofL (outU L r)) from
      HFU3.out.dels HF1.out m2 (fun k hk hm => by rw [m1.uniq hm7, keys_ups] at hm; exact hm.resolve_left hk) (fun j hj => of_out_ne hj))
    have x0' := HE7.out.2.1
    clear HDE S3 S3d HE6 HE7 HM6 r6 g6 g6' hrun7 hm7 g7 hs7 e1 e2 e3 c1 x0 hlk HF1 HF2 HF3 HE0 HU M3 T3 X3 HO HFU3
    go_wp2_with fail
    refine (isSource_ok w7 x bi bf _ _ r.src E1.out.cell E1.out.from_).mono ?_
    rintro e w' ⟨rfl, rfl⟩
    by_cases hz : ofL (outU L r) r.src ≠ []
    · rw [decide_eq_true hz]
      have HZ := hid hz
      clear hz
      go_wp2
      go_end0
      exact ⟨rfl, _, ⟨E1.out, hG.out, HFN.out HZ.out⟩, E2.out, E3.out⟩
    · rw [decide_eq_false hz]
      have HZ := hid (Classical.byContradiction hz)
      clear hz
      go_wp2_with fail
      have X7 := hid x0'
      refine wp_region_still_tail 6 (by kernel_rfl) (by kernel_rfl) ?_
      simp only [List.take_succ_cons, List.take_zero, List.drop_succ_cons, List.drop_zero]
      change wpStill _ _ w7.drew (fun a' => wpList _ _ _ _ a' w7.drew) _ _
      have M8 := hid (E1.out.keep (Below.refl _ w7).drew)
      have HFE8 := hid (fun (W : World) (LF2 : List (Tx × Value)) (m1 : MapAt w7.drew bf LF2) (m2 : MapAt W bf (dels LF2 r.src)) => HFE.out W LF2 (m1.same rfl) m2)
      have x8 : w7.drew.cell? ⟨B0, 0, none⟩ = some (.string (bs r.src)) := x0'
      have t8 := Tu.drew F w7
      clear x0'
      have T8 := hid (E3.out.trans t8 (fun _ _ f => f))
      clear t8
      generalize w7.drew = W8 at *
      have c1 := M8.out.cell.c1
      repeat still_step
      refine wpStill_nil ?_
      obtain ⟨LF8, K8, f1, f2, f3⟩ := M8.out.from_
      have HF1 := hid f1
      have HF2 := hid f2
      have HF3 := hid f3
      clear f1 f2 f3
      go_wp2_with (first
        | (at_delete; refine wpList_delete_m _ rfl _ _ 174 9 rfl 38 Tryz.underlying174 Tryz.underlying9 bf _ rfl HF1.out r.src _ rfl rfl ?_; intro w9 hm9 g9 hs9))
      have M9 := hid (M8.out.dropO HF2.out HF3.out hm9 g9 (O' := ofL (outU L r)) (fun j => by
        by_cases hj : j = r.src
        · rw [if_pos hj, hj]; exact HZ.out
        · rw [if_neg hj]))
      have T9 := hid (T8.out.trans (Tu.gb (F := F) g9 HM0.out.ff) (fun _ _ f => f))
      go_end0
      exact ⟨rfl, _, ⟨M9.out, hG.out, HFE8.out _ _ HF1.out hm9⟩, E2.out, T9.out⟩
end Go.Proofs.YtmifpfojhlmbkaaGreat
