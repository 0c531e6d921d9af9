/-
  How a series' chunks lie in memory: rows of pointers to chunks, parts of such rows, rows of the call's own.
-/
import Derived.Test.YtpbhdlhbcfkhfaaGreatSList
import Derived.Test.YtpbhdlhbcfkhfaaGreatCUse
import Derived.Test.YtpbhdlhbcfkhfaaGreatCEnds
import Derived.Laws.AppendOwn
import Derived.Laws.OwnMore
namespace Go.Proofs.YtpbhdlhbcfkhfaaGreat
open Go.RowKit
set_option linter.unusedVariables false
set_option linter.unusedSimpArgs false

def ptr (b : Nat) : Value := .pointer (some ⟨b, 0, none⟩)
/-- Block r is no row of pointers to chunks. -/
def NoPtr (w : World) (r : Nat) : Prop := ∀ (cs : Array Value) (f : Nat × Nat), w.heap[r]? ≠ some (.cells cs 46 f)
theorem noPtr_of {w : World} {b : Nat} {c : Array Value} {t : TypeId} {f : Nat × Nat} (h : w.heap[b]? = some (.cells c t f)) (ht : t ≠ 46) : NoPtr w b := by
  intro c' f' h'
  rw [h] at h'
  simp at h'
  exact ht h'.2.1
theorem NoPtr.past {w : World} {b : Nat} (h : w.heap.size ≤ b) : NoPtr w b := by
  intro c f h'
  have := heap_lt h'
  omega
theorem PCk.noPtr {w : World} {b : Nat} {sz : Int} {z : List (Int × Int)} (h : PCk w b sz z) : NoPtr w b := by
  obtain ⟨a, cap, hc, _⟩ := h; exact noPtr_of hc (by decide)
theorem PCk.noSamp {w : World} {b : Nat} {sz : Int} {z : List (Int × Int)} (h : PCk w b sz z) : NoSamp w b := CAt.no h (by decide)

/-- A slice of pointers to the chunks in the blocks bs. -/
def Ptrs (w : World) (a : Option Addr) (len cap : Nat) (bs : List Nat) : Prop :=
  bs.length = len ∧ len ≤ cap ∧ len ≤ 9223372036854775807 ∧
  (len = 0 ∨ ∃ b off cs f, a = some ⟨b, off, none⟩ ∧ w.heap[b]? = some (.cells cs 46 f) ∧ ∀ i (h : i < bs.length), cs[off + i]? = some (ptr bs[i]))
theorem Ptrs.nil (w : World) : Ptrs w none 0 0 [] := ⟨rfl, Nat.le_refl _, by omega, .inl rfl⟩
theorem Ptrs.len {w : World} {a : Option Addr} {len cap : Nat} {bs : List Nat} (h : Ptrs w a len cap bs) : bs.length = len := h.1
theorem Ptrs.keep {w w' : World} {a : Option Addr} {len cap : Nat} {bs : List Nat} {row : Option Nat} (h : Ptrs w a len cap bs) (g : w.grownBy w' row) (hr : ∀ r, row = some r → NoPtr w r) : Ptrs w' a len cap bs := by
  obtain ⟨h1, h2, h3, h4⟩ := h
  refine ⟨h1, h2, h3, ?_⟩
  rcases h4 with h0 | ⟨b, off, cs, f, rfl, hc, hi⟩
  · exact .inl h0
  · exact .inr ⟨b, off, cs, f, rfl, by rw [g.block b (heap_lt hc) (fun e => hr b e.symm cs f hc)]; exact hc, hi⟩
theorem Ptrs.keepN {w w' : World} {a : Option Addr} {len cap : Nat} {bs : List Nat} (h : Ptrs w a len cap bs) (g : w.grownBy w' none) : Ptrs w' a len cap bs := h.keep g (by simp)
theorem Ptrs.keepB {w w' : World} {a : Option Addr} {len cap : Nat} {bs : List Nat} (h : Ptrs w a len cap bs) (g : Below w.heap.size w w') : Ptrs w' a len cap bs := h.keepN (gb_below g)
/-- Where the row lies below a mark, what is below it is kept. -/
theorem Ptrs.at_ {w : World} {a : Option Addr} {len cap : Nat} {bs : List Nat} (h : Ptrs w a len cap bs) (i : Nat) (hi : i < len) :
    ∃ b off, a = some ⟨b, off, none⟩ ∧ b < w.heap.size ∧ w.cell? ⟨b, off + i, none⟩ = some (ptr (bs.getD i 0)) := by
  obtain ⟨h1, h2, h3, h4⟩ := h
  rcases h4 with h0 | ⟨b, off, cs, f, rfl, hc, hx⟩
  · omega
  · refine ⟨b, off, rfl, heap_lt hc, ?_⟩
    rw [cell_of hc, hx i (by omega), List.getD_eq_getElem?_getD, List.getElem?_eq_getElem (by omega)]; rfl
theorem Ptrs.all {w : World} {a : Option Addr} {len cap : Nat} {bs : List Nat} (h : Ptrs w a len cap bs) (h0 : 0 < len) :
    ∃ b off, a = some ⟨b, off, none⟩ ∧ b < w.heap.size ∧ ∀ i, i < len → w.cell? ⟨b, off + i, none⟩ = some (ptr (bs.getD i 0)) := by
  obtain ⟨b, off, rfl, hlt, _⟩ := h.at_ 0 h0
  refine ⟨b, off, rfl, hlt, fun i hi => ?_⟩
  obtain ⟨b', off', e, _, hc⟩ := h.at_ i hi
  simp only [Option.some.injEq, Addr.mk.injEq] at e
  obtain ⟨rfl, rfl, _⟩ := e
  exact hc
theorem size_ptr (W : World) : (sizeOf (Tryz.prog.elem 50)).run Tryz.prog W = .ok 1 W := by kernel_rfl

/-- A part of such a row: its place. -/
theorem Ptrs.part {w : World} {a : Option Addr} {len cap : Nat} {bs : List Nat} (h : Ptrs w a len cap bs) (k m : Nat) (hkm : k ≤ m) (hm : m ≤ len) :
    Ptrs w (if cap = k then a else a.map (·.add (k * 1))) (m - k) (cap - k) (midL bs k m) := by
  obtain ⟨h1, h2, h3, h4⟩ := h
  refine ⟨by unfold midL; simp; omega, by omega, by omega, ?_⟩
  by_cases hz : m - k = 0
  · exact .inl hz
  · rcases h4 with h0 | ⟨b, off, cs, f, rfl, hc, hx⟩
    · omega
    · rw [if_neg (by omega)]
      refine .inr ⟨b, off + k, cs, f, by simp [Addr.add], hc, fun i hi => ?_⟩
      have hi' : i < m - k := by unfold midL at hi; simp at hi; omega
      rw [show off + k + i = off + (k + i) from by omega, hx (k + i) (by omega)]
      congr 1
      simp only [midL, List.getElem_drop, List.getElem_take]
theorem midL_to {α : Type} (l : List α) (m : Nat) : midL l 0 m = l.take m := by simp [midL]
theorem midL_from {α : Type} (l : List α) (k : Nat) : midL l k l.length = l.drop k := by simp [midL]

theorem ptrs_lh {w : World} {a : Option Addr} {len cap : Nat} {bs : List Nat} (h : Ptrs w a len cap bs) (k m : Nat) (hkm : k ≤ m) (hm : m ≤ len) :
    ∃ a', (∀ W : World, (Instr.slice 50 (.slice a len cap) (some (.int .i64 (k : Int))) (some (.int .i64 (m : Int))) none).run Tryz.prog W = .ok (.slice a' (m - k) (cap - k)) W) ∧ Ptrs w a' (m - k) (cap - k) (midL bs k m) := by
  have hc := h.2.1
  refine ⟨_, fun W => ?_, h.part k m hkm hm⟩
  rw [run_slice_lh W 50 _ _ _ (by kernel_rfl) .i64 .i64 (k : Int) (m : Int) (by omega) (by omega) (by omega), size_ptr]
  simp [Result.andThen, sliced]
theorem ptrs_l {w : World} {a : Option Addr} {len cap : Nat} {bs : List Nat} (h : Ptrs w a len cap bs) (k : Nat) (hk : k ≤ len) :
    ∃ a', (∀ W : World, (Instr.slice 50 (.slice a len cap) (some (.int .i64 (k : Int))) none none).run Tryz.prog W = .ok (.slice a' (len - k) (cap - k)) W) ∧ Ptrs w a' (len - k) (cap - k) (bs.drop k) := by
  have hc := h.2.1
  have hp := h.part k len hk (Nat.le_refl _)
  have hl := h.1
  refine ⟨_, fun W => ?_, by rw [← midL_from, hl]; exact hp⟩
  rw [run_slice_l W 50 _ _ _ (by kernel_rfl) .i64 (k : Int) (by omega) (by omega), size_ptr]
  simp [Result.andThen, sliced]
theorem ptrs_h {w : World} {a : Option Addr} {len cap : Nat} {bs : List Nat} (h : Ptrs w a len cap bs) (m : Nat) (hm : m ≤ len) :
    ∃ a', (∀ W : World, (Instr.slice 50 (.slice a len cap) none (some (.int .i64 (m : Int))) none).run Tryz.prog W = .ok (.slice a' m cap) W) ∧ Ptrs w a' m cap (bs.take m) := by
  have hc := h.2.1
  have hp := h.part 0 m (Nat.zero_le _) hm
  refine ⟨_, fun W => ?_, by rw [← midL_to]; exact hp⟩
  rw [run_slice_h W 50 _ _ _ (by kernel_rfl) .i64 (m : Int) (by omega) (by omega), size_ptr]
  simp [Result.andThen, sliced]

/-! Rows of the call's own. -/
def PRow (w : World) (base : Nat) (v : Value) (bs : List Nat) : Prop := w.ownsRow base 46 1 v bs.length (bs.map ptr)
theorem PRow.nil (w : World) (base : Nat) : PRow w base (.slice none 0 0) [] := World.ownsRow_nil w base _ _
theorem PRow.shape {w : World} {base : Nat} {v : Value} {bs : List Nat} (h : PRow w base v bs) : ∃ a cap, v = .slice a bs.length cap ∧ Ptrs w a bs.length cap bs := by
  rcases h.2 with ⟨rfl, e⟩ | ⟨g, cap, cur, rfl, hb, hg, hle, hmx, hsz, htk⟩
  · have : bs = [] := List.eq_nil_of_length_eq_zero e
    subst this
    exact ⟨none, 0, rfl, Ptrs.nil w⟩
  · refine ⟨_, cap, rfl, rfl, hle, by unfold maxLen at hmx; omega, .inr ⟨g, 0, cur, (0, 0), rfl, hg, fun i hi => ?_⟩⟩
    have e : (cur.toList.take (bs.length * 1))[i]? = (bs.map ptr)[i]? := by rw [htk]
    rw [List.getElem?_take, if_pos (by omega), Array.getElem?_toList, List.getElem?_map, List.getElem?_eq_getElem hi] at e
    rw [Nat.zero_add]; exact e
theorem PRow.keep {w w' : World} {base : Nat} {v : Value} {bs : List Nat} {row : Option Nat} (h : PRow w base v bs) (g : w.grownBy w' row) (hr : ∀ r, row = some r → NoPtr w r) : PRow w' base v bs := by
  refine World.ownsRow.kept h g ?_
  rcases h.2 with ⟨rfl, e⟩ | ⟨g', cap, cur, rfl, hb, hg, _⟩
  · exact .inl rfl
  · refine .inr fun e => ?_
    exact hr g' (by simpa [Value.ownBlock] using e.symm) cur (0, 0) hg
theorem PRow.keepN {w w' : World} {base : Nat} {v : Value} {bs : List Nat} (h : PRow w base v bs) (g : w.grownBy w' none) : PRow w' base v bs := h.keep g (by simp)
theorem PRow.keepB {w w' : World} {base : Nat} {v : Value} {bs : List Nat} (h : PRow w base v bs) (g : Below w.heap.size w w') : PRow w' base v bs := h.keepN (gb_below g)
theorem PRow.base {w : World} {base base' : Nat} {v : Value} {bs : List Nat} (h : PRow w base v bs) (hb : base' ≤ base) : PRow w base' v bs := by
  refine ⟨h.1, ?_⟩
  rcases h.2 with h | ⟨g, cap, cur, e, hg, r⟩
  · exact .inl h
  · exact .inr ⟨g, cap, cur, e, Nat.le_trans hb hg, r⟩
/-- What a turn of the row's own block leaves. -/
theorem PRow.own {w : World} {base : Nat} {v : Value} {bs : List Nat} (h : PRow w base v bs) : ∀ r, v.ownBlock = some r → base ≤ r ∧ NoSamp w r ∧ ∃ cs f, w.heap[r]? = some (.cells cs 46 f) := by
  intro r hr
  rcases h.2 with ⟨rfl, e⟩ | ⟨g, cap, cur, rfl, hb, hg, _⟩
  · simp [Value.ownBlock] at hr
  · simp [Value.ownBlock] at hr
    subst hr
    exact ⟨hb, noSamp_of hg (by decide), _, _, hg⟩
theorem PRow.one (w : World) (base b : Nat) (hb : base ≤ w.heap.size) : PRow (w.alloc (.cells #[ptr b] 46)) base (.slice (some ⟨w.heap.size, 0, none⟩) 1 1) [b] :=
  ⟨rfl, .inr ⟨w.heap.size, 1, #[ptr b], rfl, hb, heap_new w _, Nat.le_refl _, by unfold maxLen; omega, rfl, rfl⟩⟩
theorem PRow.two (w : World) (base b c : Nat) (hb : base ≤ w.heap.size) : PRow (w.alloc (.cells #[ptr b, ptr c] 46)) base (.slice (some ⟨w.heap.size, 0, none⟩) 2 2) [b, c] :=
  ⟨rfl, .inr ⟨w.heap.size, 2, #[ptr b, ptr c], rfl, hb, heap_new w _, Nat.le_refl _, by unfold maxLen; omega, rfl, rfl⟩⟩

/-! Chunks: each with its block. -/
def Chs (w : World) (sz : Int) (L : List (Nat × List (Int × Int))) : Prop := ∀ x ∈ L, PCk w x.1 sz x.2
def bl (L : List (Nat × List (Int × Int))) : List Nat := L.map (·.1)
def zs (L : List (Nat × List (Int × Int))) : List (List (Int × Int)) := L.map (·.2)
theorem Chs.keep {w w' : World} {sz : Int} {L : List (Nat × List (Int × Int))} {r : Nat} (h : Chs w sz L) (g : w.grownBy w' (some r)) (hr : NoSamp w r) (hn : r ∉ bl L) : Chs w' sz L := fun x hx =>
  CAt.keep (h x hx) g (fun e => hn (by unfold bl; exact List.mem_map.2 ⟨x, hx, e⟩)) hr
theorem Chs.keepN {w w' : World} {sz : Int} {L : List (Nat × List (Int × Int))} (h : Chs w sz L) (g : w.grownBy w' none) : Chs w' sz L := fun x hx => CAt.keepN (h x hx) g
theorem Chs.keepB {w w' : World} {sz : Int} {L : List (Nat × List (Int × Int))} (h : Chs w sz L) (g : Below w.heap.size w w') : Chs w' sz L := h.keepN (gb_below g)
/-- A row of pointers turns: no chunk does. -/
theorem Chs.keepP {w w' : World} {sz : Int} {L : List (Nat × List (Int × Int))} {row : Option Nat} (h : Chs w sz L) (g : w.grownBy w' row) (hr : ∀ r, row = some r → NoSamp w r ∧ ∃ cs f, w.heap[r]? = some (.cells cs 46 f)) : Chs w' sz L := by
  cases row with
  | none => exact h.keepN g
  | some r =>
    obtain ⟨h1, cs, f, h2⟩ := hr r rfl
    intro x hx
    obtain ⟨a, cap, hc, hl⟩ := h x hx
    refine CAt.keep ⟨a, cap, hc, hl⟩ g (fun e => ?_) h1
    subst e
    rw [h2] at hc
    simp at hc
theorem Chs.app {w : World} {sz : Int} {L M : List (Nat × List (Int × Int))} (h : Chs w sz L) (k : Chs w sz M) : Chs w sz (L ++ M) := fun x hx => by
  rcases List.mem_append.1 hx with e | e
  · exact h x e
  · exact k x e
theorem Chs.one {w : World} {sz : Int} {b : Nat} {z : List (Int × Int)} (h : PCk w b sz z) : Chs w sz [(b, z)] := fun x hx => by simp at hx; subst hx; exact h
theorem Chs.sub {w : World} {sz : Int} {L M : List (Nat × List (Int × Int))} (h : Chs w sz L) (hs : ∀ x ∈ M, x ∈ L) : Chs w sz M := fun x hx => h x (hs x hx)
theorem bl_app (L M : List (Nat × List (Int × Int))) : bl (L ++ M) = bl L ++ bl M := by simp [bl]
theorem zs_app (L M : List (Nat × List (Int × Int))) : zs (L ++ M) = zs L ++ zs M := by simp [zs]
theorem bl_len (L : List (Nat × List (Int × Int))) : (bl L).length = L.length := by simp [bl]
theorem zs_len (L : List (Nat × List (Int × Int))) : (zs L).length = L.length := by simp [zs]
theorem bl_mid (L : List (Nat × List (Int × Int))) (f e : Nat) : bl (midL L f e) = midL (bl L) f e := by simp [bl, midL, List.map_drop, List.map_take]
theorem zs_mid (L : List (Nat × List (Int × Int))) (f e : Nat) : zs (midL L f e) = midL (zs L) f e := by simp [zs, midL, List.map_drop, List.map_take]
theorem bl_get {L : List (Nat × List (Int × Int))} {i : Nat} (h : i < L.length) : (bl L).getD i 0 = L[i].1 := by simp [bl, List.getD_eq_getElem?_getD, h]
theorem zs_get {L : List (Nat × List (Int × Int))} {i : Nat} (h : i < L.length) : (zs L).getD i [] = L[i].2 := by simp [zs, List.getD_eq_getElem?_getD, h]
theorem Chs.get {w : World} {sz : Int} {L : List (Nat × List (Int × Int))} (h : Chs w sz L) {i : Nat} (hi : i < L.length) : PCk w ((bl L).getD i 0) sz ((zs L).getD i []) := by
  rw [bl_get hi, zs_get hi]; exact h _ (List.getElem_mem hi)
theorem Chs.all64 {w : World} {sz : Int} {L : List (Nat × List (Int × Int))} (h : Chs w sz L) : All64 (zs L).flatten := fun x hx => by
  obtain ⟨z, hz, hxz⟩ := List.mem_flatten.1 hx
  obtain ⟨y, hy, rfl⟩ := List.mem_map.1 hz
  exact CAt.all64 (h y hy) x hxz
theorem flat_len_get (Z : List (List (Int × Int))) (i : Nat) : (Z.getD i []).length ≤ Z.flatten.length := by
  by_cases h : i < Z.length
  · rw [chunk_get h]
    exact (List.sublist_flatten_of_mem (List.getElem_mem h)).length_le
  · rw [List.getD_eq_getElem?_getD, List.getElem?_eq_none (by omega)]; simp

end Go.Proofs.YtpbhdlhbcfkhfaaGreat
