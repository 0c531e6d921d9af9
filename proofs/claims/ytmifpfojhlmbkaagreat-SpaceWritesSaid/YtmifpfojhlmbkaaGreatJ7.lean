/-
  Contracts.
-/
import Derived.Test.YtmifpfojhlmbkaaGreatJ0
import Derived.Test.YtmifpfojhlmbkaaGreatJ1
import Derived.Test.YtmifpfojhlmbkaaGreatJ6
namespace Go.Proofs.YtmifpfojhlmbkaaGreat
open Lib (hid)
set_option maxRecDepth 100000
set_option maxHeartbeats 16000000
open Go.RowKit
set_option linter.unusedVariables false
set_option linter.unusedSimpArgs false
def GrCell (w : World) (x bi bf : Nat) : Prop := w.heap[x]? = some (.cells #[mp bi, mp bf] 176 (0, 0))
theorem GrCell.c0 {w : World} {x bi bf : Nat} (h : GrCell w x bi bf) : w.cell? ⟨x, 0, none⟩ = some (mp bi) := by rw [cell_of h]; rfl
theorem GrCell.c1 {w : World} {x bi bf : Nat} (h : GrCell w x bi bf) : w.cell? ⟨x, 1, none⟩ = some (mp bf) := by rw [cell_of h]; rfl
theorem GrCell.tu {F : Nat → Prop} {w w' : World} {x bi bf : Nat} (h : GrCell w x bi bf) (t : Tu F w w') (hx : ¬ F x) : GrCell w' x bi bf := (t.block x (heap_lt h) hx).trans h
theorem GrCell.keep {w w' : World} {x bi bf : Nat} (h : GrCell w x bi bf) (k : Below w.heap.size w w') : GrCell w' x bi bf := (k.block x (heap_lt h)).trans h
def IntoAt (w : World) (b : Nat) (I : Tx → Option Ru) : Prop := ∃ LI, MapAt w b LI ∧ ∀ k, look LI k = (I k).map ruV
theorem IntoAt.lt {w : World} {b : Nat} {I : Tx → Option Ru} (h : IntoAt w b I) : b < w.heap.size := by
  obtain ⟨L, h1, _⟩ := h
  exact h1.lt
theorem IntoAt.isMap {w : World} {b : Nat} {I : Tx → Option Ru} (h : IntoAt w b I) : ∃ es c, w.heap[b]? = some (.map es c) := by
  obtain ⟨L, h1, _⟩ := h
  exact h1.isMap
theorem IntoAt.same {w w' : World} {b : Nat} {I : Tx → Option Ru} (h : IntoAt w b I) (e : w'.heap[b]? = w.heap[b]?) : IntoAt w' b I := by
  obtain ⟨L, h1, h2⟩ := h
  exact ⟨L, h1.same e, h2⟩
theorem IntoAt.tu {F : Nat → Prop} {w w' : World} {b : Nat} {I : Tx → Option Ru} (h : IntoAt w b I) (t : Tu F w w') (hb : ¬ F b) : IntoAt w' b I := h.same (t.block b h.lt hb)
theorem IntoAt.put {b : Nat} {I J : Tx → Option Ru} {LI : List (Tx × Value)} (h2 : ∀ k, look LI k = (I k).map ruV) {w' : World} {d : Tx} {r : Ru} (h : MapAt w' b (ups LI d (ruV r))) (e : ∀ k, J k = if k = d then some r else I k) : IntoAt w' b J := by
  refine ⟨_, h, fun k => ?_⟩
  by_cases hk : k = d
  · subst hk; rw [look_ups_same, e, if_pos rfl]; rfl
  · rw [look_ups_ne _ hk, e, if_neg hk, h2]
theorem IntoAt.del {b : Nat} {I J : Tx → Option Ru} {LI : List (Tx × Value)} (h2 : ∀ k, look LI k = (I k).map ruV) {w' : World} {d : Tx} (h : MapAt w' b (dels LI d)) (e : ∀ k, J k = if k = d then none else I k) : IntoAt w' b J := by
  refine ⟨_, h, fun k => ?_⟩
  by_cases hk : k = d
  · subst hk; rw [look_dels_same, e, if_pos rfl]; rfl
  · rw [look_dels_ne hk, e, if_neg hk, h2]
structure RowsAt (w : World) (F : Nat → Prop) (O : Tx → List Ru) (K : Tx → Option Value) : Prop where
  hit : ∀ k v, K k = some v → URow 32 w 0 v (O k)
  own : ∀ k v g, K k = some v → v.ownBlock = some g → F g
  miss : ∀ k, K k = none → O k = []
  inj : ∀ k j v u g, K k = some v → K j = some u → v.ownBlock = some g → u.ownBlock = some g → k = j
def kV (K : Tx → Option Value) (k : Tx) : Value := (K k).getD (.slice none 0 0)
theorem RowsAt.row {w : World} {F : Nat → Prop} {O : Tx → List Ru} {K : Tx → Option Value} (h : RowsAt w F O K) (k : Tx) : URow 32 w 0 (kV K k) (O k) := by
  unfold kV
  cases e : K k with
  | none => rw [h.miss k e]; exact URow.nil _ _ _
  | some v => exact h.hit k v e
theorem RowsAt.ownV {w : World} {F : Nat → Prop} {O : Tx → List Ru} {K : Tx → Option Value} (h : RowsAt w F O K) {k : Tx} {g : Nat} (hg : (kV K k).ownBlock = some g) : F g := by
  unfold kV at hg
  cases e : K k with
  | none => rw [e] at hg; cases hg
  | some v => rw [e] at hg; exact h.own k v g e hg
theorem RowsAt.mono {w w' : World} {F F' : Nat → Prop} {O : Tx → List Ru} {K : Tx → Option Value} (h : RowsAt w F O K) (hF : ∀ i, F i → F' i) (hb : ∀ k v g, K k = some v → v.ownBlock = some g → w'.heap[g]? = w.heap[g]?) : RowsAt w' F' O K :=
  ⟨fun k v e => (h.hit k v e).kept fun g hg => hb k v g e hg, fun k v g e hg => hF g (h.own k v g e hg), h.miss, h.inj⟩
theorem RowsAt.put {w w' : World} {F F' : Nat → Prop} {O O' : Tx → List Ru} {K K' : Tx → Option Value} {k : Tx} {v : Value} {l : List Ru} (h : RowsAt w F O K) (hF : ∀ j u g, j ≠ k → K j = some u → u.ownBlock = some g → F' g)
    (hb : ∀ j u g, j ≠ k → K j = some u → u.ownBlock = some g → w'.heap[g]? = w.heap[g]?) (hv : URow 32 w' 0 v l)
    (hg : ∀ g, v.ownBlock = some g → F' g ∧ ∀ j u, j ≠ k → K j = some u → u.ownBlock ≠ some g)
    (eO : ∀ j, O' j = if j = k then l else O j) (eK : ∀ j, K' j = if j = k then some v else K j) : RowsAt w' F' O' K' := by
  refine ⟨fun j u e => ?_, fun j u g e hu => ?_, fun j e => ?_, fun i j u1 u2 g e1 e2 h1 h2 => ?_⟩
  · rw [eK] at e
    rw [eO]
    by_cases hj : j = k
    · rw [if_pos hj] at e ⊢
      cases e
      exact hv
    · rw [if_neg hj] at e ⊢
      exact (h.hit j u e).kept fun g hu => hb j u g hj e hu
  · rw [eK] at e
    by_cases hj : j = k
    · rw [if_pos hj] at e; cases e; exact (hg g hu).1
    · rw [if_neg hj] at e; exact hF j u g hj e hu
  · rw [eK] at e
    rw [eO]
    by_cases hj : j = k
    · rw [if_pos hj] at e; cases e
    · rw [if_neg hj] at e ⊢; exact h.miss j e
  · rw [eK] at e1 e2
    by_cases hi : i = k
    · by_cases hj : j = k
      · rw [hi, hj]
      · rw [if_pos hi] at e1; rw [if_neg hj] at e2
        cases e1
        exact absurd h2 ((hg g h1).2 j u2 hj e2)
    · by_cases hj : j = k
      · rw [if_neg hi] at e1; rw [if_pos hj] at e2
        cases e2
        exact absurd h1 ((hg g h2).2 i u1 hi e1)
      · rw [if_neg hi] at e1; rw [if_neg hj] at e2
        exact h.inj i j u1 u2 g e1 e2 h1 h2
theorem RowsAt.drop {w w' : World} {F F' : Nat → Prop} {O O' : Tx → List Ru} {K K' : Tx → Option Value} {k : Tx} (h : RowsAt w F O K) (hF : ∀ i, F i → F' i)
    (hb : ∀ j u g, j ≠ k → K j = some u → u.ownBlock = some g → w'.heap[g]? = w.heap[g]?)
    (eO : ∀ j, O' j = if j = k then [] else O j) (eK : ∀ j, K' j = if j = k then none else K j) : RowsAt w' F' O' K' := by
  refine ⟨fun j u e => ?_, fun j u g e hu => ?_, fun j e => ?_, fun i j u1 u2 g e1 e2 h1 h2 => ?_⟩
  · rw [eK] at e
    rw [eO]
    by_cases hj : j = k
    · rw [if_pos hj] at e; cases e
    · rw [if_neg hj] at e ⊢
      exact (h.hit j u e).kept fun g hu => hb j u g hj e hu
  · rw [eK] at e
    by_cases hj : j = k
    · rw [if_pos hj] at e; cases e
    · rw [if_neg hj] at e; exact hF g (h.own j u g e hu)
  · rw [eK] at e
    rw [eO]
    by_cases hj : j = k
    · rw [if_pos hj]
    · rw [if_neg hj] at e ⊢; exact h.miss j e
  · rw [eK] at e1 e2
    by_cases hi : i = k
    · rw [if_pos hi] at e1; cases e1
    · by_cases hj : j = k
      · rw [if_pos hj] at e2; cases e2
      · rw [if_neg hi] at e1; rw [if_neg hj] at e2
        exact h.inj i j u1 u2 g e1 e2 h1 h2
theorem RowsAt.cells {w : World} {F : Nat → Prop} {O : Tx → List Ru} {K : Tx → Option Value} (h : RowsAt w F O K) {k : Tx} {v : Value} {g : Nat} (e : K k = some v) (hg : v.ownBlock = some g) : ∃ cs f, w.heap[g]? = some (.cells cs 32 f) := by
  rcases (h.hit k v e).2 with ⟨rfl, _⟩ | ⟨g', cap, cur, rfl, _, hc, _⟩
  · cases hg
  · cases hg
    exact ⟨_, _, hc⟩
def FromAt (w : World) (b : Nat) (F : Nat → Prop) (O : Tx → List Ru) : Prop := ∃ LF K, MapAt w b LF ∧ (∀ k, look LF k = K k) ∧ RowsAt w F O K
theorem FromAt.lt {w : World} {b : Nat} {F : Nat → Prop} {O : Tx → List Ru} (h : FromAt w b F O) : b < w.heap.size := by
  obtain ⟨L, K, h1, _⟩ := h
  exact h1.lt
theorem FromAt.isMap {w : World} {b : Nat} {F : Nat → Prop} {O : Tx → List Ru} (h : FromAt w b F O) : ∃ es c, w.heap[b]? = some (.map es c) := by
  obtain ⟨L, K, h1, _⟩ := h
  exact h1.isMap
theorem FromAt.keep {w w' : World} {b : Nat} {F : Nat → Prop} {O : Tx → List Ru} (h : FromAt w b F O) (k : Below w.heap.size w w') : FromAt w' b F O := by
  obtain ⟨L, K, h1, h2, h3⟩ := h
  exact ⟨L, K, h1.keep k, h2, h3.mono (fun _ f => f) fun j v g e hg => k.block g ((h3.hit j v e).lt hg)⟩
theorem FromAt.tu {G : Nat → Prop} {w w' : World} {b : Nat} {F : Nat → Prop} {O : Tx → List Ru} (h : FromAt w b F O) (t : Tu G w w') (hb : ¬ G b) (hG : ∀ i, F i → ¬ G i) : FromAt w' b F O := by
  obtain ⟨L, K, h1, h2, h3⟩ := h
  exact ⟨L, K, h1.tu t hb, h2, h3.mono (fun _ f => f) fun j v g e hg => t.block g ((h3.hit j v e).lt hg) (hG g (h3.own j v g e hg))⟩
theorem FromAt.map {w w' : World} {b c : Nat} {F : Nat → Prop} {O : Tx → List Ru} (h : FromAt w b F O) (g : w.grownBy w' (some c)) (hc : ∃ es cl, w.heap[c]? = some (.map es cl)) (hne : b ≠ c) : FromAt w' b F O := by
  obtain ⟨L, K, h1, h2, h3⟩ := h
  refine ⟨L, K, h1.gb g (by simpa using hne), h2, h3.mono (fun _ f => f) fun j v q e hq => g.block q ((h3.hit j v e).lt hq) fun e' => ?_⟩
  obtain ⟨cs, f, hcs⟩ := h3.cells e hq
  obtain ⟨es, cl, hm⟩ := hc
  cases e'
  rw [hm] at hcs; cases hcs
def KindU (w : World) (i : Nat) : Prop := (∃ es c, w.heap[i]? = some (.map es c)) ∨ ∃ cs f, w.heap[i]? = some (.cells cs 32 f)
theorem KindU.lt {w : World} {i : Nat} (h : KindU w i) : i < w.heap.size := by
  rcases h with ⟨_, _, h⟩ | ⟨_, _, h⟩ <;> exact heap_lt h
theorem KindU.same {w w' : World} {i : Nat} (h : KindU w i) (e : w'.heap[i]? = w.heap[i]?) : KindU w' i := by
  unfold KindU; rw [e]; exact h
structure MidAt (w : World) (x bi bf : Nat) (F : Nat → Prop) (I : Tx → Option Ru) (O : Tx → List Ru) : Prop where
  cell : GrCell w x bi bf
  nx : ¬ F x
  fi : F bi
  ff : F bf
  ne : bi ≠ bf
  kind : ∀ i, F i → KindU w i
  into : IntoAt w bi I
  from_ : FromAt w bf F O
theorem MidAt.lt {w : World} {x bi bf : Nat} {F : Nat → Prop} {I : Tx → Option Ru} {O : Tx → List Ru} (h : MidAt w x bi bf F I O) : ∀ i, F i → i < w.heap.size := fun i f => (h.kind i f).lt
theorem MidAt.keep {w w' : World} {x bi bf : Nat} {F : Nat → Prop} {I : Tx → Option Ru} {O : Tx → List Ru} (h : MidAt w x bi bf F I O) (k : Below w.heap.size w w') : MidAt w' x bi bf F I O :=
  ⟨h.cell.keep k, h.nx, h.fi, h.ff, h.ne, fun i f => (h.kind i f).same (k.block i (h.lt i f)), h.into.same (k.block bi h.into.lt), h.from_.keep k⟩
theorem MidAt.tu {G : Nat → Prop} {w w' : World} {x bi bf : Nat} {F : Nat → Prop} {I : Tx → Option Ru} {O : Tx → List Ru} (h : MidAt w x bi bf F I O) (t : Tu G w w') (hx : ¬ G x) (hG : ∀ i, F i → ¬ G i) : MidAt w' x bi bf F I O :=
  ⟨h.cell.tu t hx, h.nx, h.fi, h.ff, h.ne, fun i f => (h.kind i f).same (t.block i (h.lt i f) (hG i f)), h.into.tu t (hG bi h.fi), h.from_.tu t (hG bf h.ff) hG⟩
theorem MidAt.xlt {w : World} {x bi bf : Nat} {F : Nat → Prop} {I : Tx → Option Ru} {O : Tx → List Ru} (h : MidAt w x bi bf F I O) : x < w.heap.size := heap_lt h.cell
theorem MidAt.turnI {w w' : World} {x bi bf : Nat} {F : Nat → Prop} {I J : Tx → Option Ru} {O : Tx → List Ru} (h : MidAt w x bi bf F I O) (g : w.grownBy w' (some bi)) (hJ : IntoAt w' bi J) : MidAt w' x bi bf F J O :=
  ⟨h.cell.tu (Tu.gb (F := F) g h.fi) h.nx, h.nx, h.fi, h.ff, h.ne, fun i f => if e : i = bi then (by subst e; exact .inl hJ.isMap) else (h.kind i f).same (g.block i (h.lt i f) (by simpa using e)), hJ, h.from_.map g h.into.isMap (fun e => h.ne e.symm)⟩
def FO (F : Nat → Prop) (o : Option Nat) (v : Value) : Nat → Prop := fun i => (F i ∧ o ≠ some i) ∨ v.ownBlock = some i
theorem MidAt.putO {w W5 W6 w7 : World} {x bi bf : Nat} {F : Nat → Prop} {I : Tx → Option Ru} {O O' : Tx → List Ru} (h : MidAt w x bi bf F I O) {LF : List (Tx × Value)} {K : Tx → Option Value} (h2 : ∀ k, look LF k = K k) (h3 : RowsAt w F O K)
    (B5 : Below w.heap.size w W5) {s : Tx} (g6 : W5.grownBy W6 (kV K s).ownBlock) {v : Value} {l : List Ru} (hv : URow 32 W6 0 v l) (hn : ∀ g, v.ownBlock = some g → W5.heap.size ≤ g ∨ (kV K s).ownBlock = some g)
    (hm : MapAt w7 bf (ups LF s v)) (g7 : W6.grownBy w7 (some bf)) (eO : ∀ j, O' j = if j = s then l else O j) :
    MidAt w7 x bi bf (FO F (kV K s).ownBlock v) I O' ∧ (∀ i, FO F (kV K s).ownBlock v i → F i ∨ w.heap.size ≤ i) ∧ Tu F w w7 := by
  have t5 : Tu F w W5 := .of B5
  have t6 : Tu F W5 W6 := .gbo g6 (fun b e => h3.ownV e)
  have t7 : Tu F W6 w7 := .gb g7 h.ff
  have t57 := (t5.trans t6 (fun _ _ f => f))
  have tt := t57.trans t7 (fun _ _ f => f)
  have hne : ∀ j u g, j ≠ s → K j = some u → u.ownBlock = some g → (kV K s).ownBlock ≠ some g := fun j u g hj e hu e2 => by
    unfold kV at e2
    cases e3 : K s with
    | none => rw [e3] at e2; cases e2
    | some q => rw [e3] at e2; exact hj (h3.inj j s u q g e e3 hu e2)
  have hkeep : ∀ j u g, j ≠ s → K j = some u → u.ownBlock = some g → w7.heap[g]? = w.heap[g]? := fun j u g hj e hu => by
    have hlt := (h3.hit j u e).lt hu
    have hlt5 := Nat.lt_of_lt_of_le hlt B5.size
    have hgf : some g ≠ some bf := fun e' => by
      cases e'
      obtain ⟨cs, f, hcs⟩ := h3.cells e hu
      obtain ⟨es, c, hmm⟩ := h.from_.isMap
      rw [hmm] at hcs; cases hcs
    rw [g7.block g (Nat.lt_of_lt_of_le hlt5 g6.size) hgf, g6.block g hlt5 (fun e' => hne j u g hj e hu e'.symm), B5.block g hlt]
  have hvf : ∀ g, v.ownBlock = some g → g ≠ bf := fun g hg e => by
    subst e
    have hl := h.from_.lt
    rcases hn g hg with q | q
    · have := B5.size; omega
    · have h1 := h3.ownV q
      unfold kV at q
      cases e3 : K s with
      | none => rw [e3] at q; cases q
      | some z =>
        rw [e3] at q
        obtain ⟨cs, f, hcs⟩ := h3.cells e3 q
        obtain ⟨es, c, hmm⟩ := h.from_.isMap
        rw [hmm] at hcs; cases hcs
  have hv7 : URow 32 w7 0 v l := hv.kept fun g hg => g7.block g (hv.lt hg) (fun e => by cases e; exact hvf _ hg rfl)
  have hmaps : ∀ g, (∃ es c, w.heap[g]? = some (.map es c)) → (kV K s).ownBlock ≠ some g := fun g hmap q => by
    unfold kV at q
    cases e3 : K s with
    | none => rw [e3] at q; cases q
    | some z =>
      rw [e3] at q
      obtain ⟨cs, f, hcs⟩ := h3.cells e3 q
      obtain ⟨es, c, hmm⟩ := hmap
      rw [hmm] at hcs; cases hcs
  have hext : ∀ i, FO F (kV K s).ownBlock v i → F i ∨ w.heap.size ≤ i := fun i hi => by
    rcases hi with f | e
    · exact .inl f.1
    · rcases hn i e with q | q
      · exact .inr (Nat.le_trans B5.size q)
      · exact .inl (h3.ownV q)
  refine ⟨⟨h.cell.tu tt h.nx, fun f => ?_, .inl ⟨h.fi, hmaps _ h.into.isMap⟩, .inl ⟨h.ff, hmaps _ h.from_.isMap⟩, h.ne, fun i hi => ?_, ?_, ?_⟩, hext, tt⟩
  · rcases hext x f with q | q
    · exact h.nx q
    · have := h.xlt; omega
  · rcases hi with ⟨f, no⟩ | e
    · by_cases eb : i = bf
      · subst eb; exact .inl hm.isMap
      · have hl := h.lt i f
        have hl5 := Nat.lt_of_lt_of_le hl B5.size
        refine (h.kind i f).same ?_
        rw [g7.block i (Nat.lt_of_lt_of_le hl5 g6.size) (by simpa using eb), g6.block i hl5 (fun e => no e.symm), B5.block i hl]
    · rcases hv7.2 with ⟨rfl, _⟩ | ⟨g', cap', cur, rfl, _, hgc, _⟩
      · cases e
      · simp only [Value.ownBlock, Option.some.injEq] at e
        subst e
        exact .inr ⟨_, _, hgc⟩
  · have hib : (kV K s).ownBlock ≠ some bi := fun q => by
      unfold kV at q
      cases e3 : K s with
      | none => rw [e3] at q; cases q
      | some z =>
        rw [e3] at q
        obtain ⟨cs, f, hcs⟩ := h3.cells e3 q
        obtain ⟨es, c, hmm⟩ := h.into.isMap
        rw [hmm] at hcs; cases hcs
    have hl := h.into.lt
    have hl5 := Nat.lt_of_lt_of_le hl B5.size
    refine h.into.same ?_
    rw [g7.block bi (Nat.lt_of_lt_of_le hl5 g6.size) (by simpa using h.ne), g6.block bi hl5 (fun e => hib e.symm), B5.block bi hl]
  · refine ⟨_, fun j => if j = s then some v else K j, hm, fun k => ?_, h3.put (fun j u g hj e hu => .inl ⟨h3.own j u g e hu, hne j u g hj e hu⟩) hkeep hv7 (fun g hg => ⟨.inr hg, fun j u hj e hu => ?_⟩) eO (fun _ => rfl)⟩
    · dsimp only
      by_cases hk : k = s
      · subst hk; rw [look_ups_same, if_pos rfl]
      · rw [look_ups_ne _ hk, if_neg hk, h2]
    · rcases hn g hg with q | q
      · have := (h3.hit j u e).lt hu
        have := B5.size
        omega
      · exact hne j u g hj e hu q
theorem MidAt.dropO {w w' : World} {x bi bf : Nat} {F : Nat → Prop} {I : Tx → Option Ru} {O O' : Tx → List Ru} (h : MidAt w x bi bf F I O) {LF : List (Tx × Value)} {K : Tx → Option Value} (h2 : ∀ k, look LF k = K k) (h3 : RowsAt w F O K)
    {s : Tx} (hm : MapAt w' bf (dels LF s)) (g : w.grownBy w' (some bf)) (eO : ∀ j, O' j = if j = s then [] else O j) : MidAt w' x bi bf F I O' := by
  have t := Tu.gb (F := F) g h.ff
  refine ⟨h.cell.tu t h.nx, h.nx, h.fi, h.ff, h.ne, fun i f => if e : i = bf then (by subst e; exact .inl hm.isMap) else (h.kind i f).same (g.block i (h.lt i f) (by simpa using e)), h.into.same (g.block bi h.into.lt (by simpa using h.ne)), ⟨_, fun j => if j = s then none else K j, hm, fun k => ?_, h3.drop (fun _ f => f) (fun j u q hj e hu => ?_) eO (fun _ => rfl)⟩⟩
  · dsimp only
    by_cases hk : k = s
    · subst hk; rw [look_dels_same, if_pos rfl]
    · rw [look_dels_ne hk, if_neg hk, h2]
  · refine g.block q ((h3.hit j u e).lt hu) (fun e' => ?_)
    cases e'
    obtain ⟨cs, f, hcs⟩ := h3.cells e hu
    obtain ⟨es, c, hmm⟩ := h.from_.isMap
    rw [hmm] at hcs; cases hcs
theorem MapAt.uniq {w : World} {b : Nat} {L M : List (Tx × Value)} (h : MapAt w b L) (k : MapAt w b M) : L = M := by
  obtain ⟨es, c, h1, _, _, h4⟩ := h
  obtain ⟨es', c', k1, _, _, k4⟩ := k
  rw [h1] at k1
  simp only [Option.some.injEq, Obj.map.injEq] at k1
  rw [h4, k4, k1.1]
def FullAt (w : World) (b : Nat) (O : Tx → List Ru) : Prop := ∀ LF, MapAt w b LF → ∀ k, k ∈ keysL LF → O k ≠ []
theorem FullAt.same {w w' : World} {b : Nat} {O : Tx → List Ru} (h : FullAt w b O) (e : w'.heap[b]? = w.heap[b]?) : FullAt w' b O := fun LF m => h LF (m.same e.symm)
theorem FullAt.ups {w w' : World} {b : Nat} {O O' : Tx → List Ru} (h : FullAt w b O) {LF : List (Tx × Value)} (hm : MapAt w b LF) {s : Tx} {v : Value} (m : MapAt w' b (ups LF s v)) (e : ∀ j, j ≠ s → O' j = O j) (hs : O' s ≠ []) : FullAt w' b O' := by
  intro L2 m2 k hk
  rw [m2.uniq m, keys_ups] at hk
  by_cases hks : k = s
  · rw [hks]; exact hs
  · rw [e k hks]; exact h LF hm k (hk.resolve_left hks)
theorem FullAt.dels {w w' : World} {b : Nat} {O O' : Tx → List Ru} (h : FullAt w b O) {LF LF2 : List (Tx × Value)} (hm : MapAt w b LF) {s : Tx} (m : MapAt w' b (dels LF2 s)) (hk2 : ∀ k, k ≠ s → k ∈ keysL LF2 → k ∈ keysL LF) (e : ∀ j, j ≠ s → O' j = O j) : FullAt w' b O' := by
  intro L2 m2 k hk
  rw [m2.uniq m, keys_dels] at hk
  rw [e k hk.2]; exact h LF hm k (hk2 k hk.2 hk.1)
theorem sub_len {α : Type} [DecidableEq α] : ∀ {l m : List α}, l.Nodup → (∀ x ∈ l, x ∈ m) → l.length ≤ m.length
  | [], _, _, _ => Nat.zero_le _
  | a :: l, m, hn, hs => by
    obtain ⟨h1, h2⟩ := List.nodup_cons.1 hn
    have ha : a ∈ m := hs a (by simp)
    have ih := sub_len (l := l) (m := m.erase a) h2 (fun x hx => by
      have hxa : x ≠ a := fun e => h1 (e ▸ hx)
      exact (List.mem_erase_of_ne hxa).2 (hs x (List.mem_cons_of_mem _ hx)))
    rw [List.length_erase_of_mem ha] at ih
    have := List.length_pos_of_mem ha
    rw [List.length_cons]; omega
theorem FullAt.len {w : World} {b : Nat} {L : List Ru} (h : FullAt w b (ofL L)) {LF : List (Tx × Value)} (hm : MapAt w b LF) : LF.length ≤ L.length := by
  have := sub_len (l := keysL LF) (m := L.map Ru.src) hm.nodup (fun k hk => by
    have h1 := h LF hm k hk
    cases e : ofL L k with
    | nil => exact absurd e h1
    | cons q r =>
      have hq : q ∈ ofL L k := by rw [e]; simp
      exact List.mem_map.2 ⟨q, (mem_ofL.1 hq).1, (mem_ofL.1 hq).2⟩)
  rw [List.length_map] at this
  simpa [keysL] using this
structure GrAt (w : World) (x bi bf : Nat) (F : Nat → Prop) (L : List Ru) : Prop where
  mid : MidAt w x bi bf F (intoL L) (ofL L)
  good : GoodU L
  full : FullAt w bf (ofL L)
theorem GrAt.cell {w : World} {x bi bf : Nat} {F : Nat → Prop} {L : List Ru} (h : GrAt w x bi bf F L) : GrCell w x bi bf := h.mid.cell
theorem GrAt.into {w : World} {x bi bf : Nat} {F : Nat → Prop} {L : List Ru} (h : GrAt w x bi bf F L) : IntoAt w bi (intoL L) := h.mid.into
theorem GrAt.from_ {w : World} {x bi bf : Nat} {F : Nat → Prop} {L : List Ru} (h : GrAt w x bi bf F L) : FromAt w bf F (ofL L) := h.mid.from_
theorem GrAt.lt {w : World} {x bi bf : Nat} {F : Nat → Prop} {L : List Ru} (h : GrAt w x bi bf F L) : ∀ i, F i → i < w.heap.size := h.mid.lt
theorem GrAt.kind {w : World} {x bi bf : Nat} {F : Nat → Prop} {L : List Ru} (h : GrAt w x bi bf F L) : ∀ i, F i → KindU w i := h.mid.kind
theorem GrAt.keep {w w' : World} {x bi bf : Nat} {F : Nat → Prop} {L : List Ru} (h : GrAt w x bi bf F L) (k : Below w.heap.size w w') : GrAt w' x bi bf F L := ⟨h.mid.keep k, h.good, h.full.same (k.block bf h.mid.from_.lt)⟩
theorem GrAt.tu {G : Nat → Prop} {w w' : World} {x bi bf : Nat} {F : Nat → Prop} {L : List Ru} (h : GrAt w x bi bf F L) (t : Tu G w w') (hx : ¬ G x) (hG : ∀ i, F i → ¬ G i) : GrAt w' x bi bf F L := ⟨h.mid.tu t hx hG, h.good, h.full.same (t.block bf h.mid.from_.lt (hG bf h.mid.ff))⟩
theorem GrAt.xlt {w : World} {x bi bf : Nat} {F : Nat → Prop} {L : List Ru} (h : GrAt w x bi bf F L) : x < w.heap.size := h.mid.xlt
structure GrTurn (w w' : World) (x bi bf : Nat) (F F' : Nat → Prop) (L' : List Ru) : Prop where
  gr : GrAt w' x bi bf F' L'
  ext : ∀ i, F' i → F i ∨ w.heap.size ≤ i
  tu : Tu F w w'
theorem GrTurn.pre {w w1 w2 : World} {x bi bf : Nat} {F F' : Nat → Prop} {L' : List Ru} (hb : Below w.heap.size w w1) (h : GrTurn w1 w2 x bi bf F F' L') : GrTurn w w2 x bi bf F F' L' :=
  ⟨h.gr, fun i hi => (h.ext i hi).imp id (fun k => Nat.le_trans hb.size k), h.tu.afterB hb⟩
theorem GrTurn.thenB {w w1 w2 : World} {x bi bf : Nat} {F F' : Nat → Prop} {L' : List Ru} (h : GrTurn w w1 x bi bf F F' L') (hb : Below w1.heap.size w1 w2) : GrTurn w w2 x bi bf F F' L' :=
  ⟨h.gr.keep hb, h.ext, h.tu.thenB hb⟩
theorem GrTurn.trans {w w1 w2 : World} {x bi bf : Nat} {F F1 F2 : Nat → Prop} {L1 L2 : List Ru} (h : GrTurn w w1 x bi bf F F1 L1) (k : GrTurn w1 w2 x bi bf F1 F2 L2) : GrTurn w w2 x bi bf F F2 L2 :=
  ⟨k.gr, fun i hi => (k.ext i hi).elim (fun f => h.ext i f) (fun q => .inr (Nat.le_trans h.tu.size q)), h.tu.trans k.tu (fun i hi f => (h.ext i f).resolve_right (by omega))⟩
theorem GrTurn.out {w w' : World} {x bi bf : Nat} {F F' : Nat → Prop} {L' : List Ru} (h : GrTurn w w' x bi bf F F' L') {i : Nat} (hi : i < w.heap.size) (hf : ¬ F i) : ¬ F' i := fun f => (h.ext i f).elim hf (fun k => by omega)
def addS (a b : Int) : Int × Int := if -9223372036854775808 ≤ a + b ∧ a + b ≤ 9223372036854775807 then (a + b, 0) else (0, 9)
def two (x : Int × Int) : Value := .tuple #[.int .i64 x.1, .int .i64 x.2]
theorem addS_in (a b : Int) : in64 (addS a b).1 := by unfold addS in64; split <;> simp <;> omega
theorem add_any (a b : Int) (w : World) (ha : in64 a) (hb : in64 b) :
    Calls Tryz.prog 50 #[.int .i64 a, .int .i64 b] w fun e w' => e = .returned (two (addS a b)) ∧ w = w' := by
  obtain ⟨ha1, ha2⟩ := ha
  obtain ⟨hb1, hb2⟩ := hb
  by_cases h1 : a + b < -9223372036854775808
  · have E := hid (show addS a b = (0, 9) from by unfold addS; rw [if_neg (by omega)])
    have t1 : decide (wrap64 (a + b) < a) = false := by simp only [decide_eq_false_iff_not]; unfold wrap64; omega
    have t2 : decide (b < 0) = true := by simp only [decide_eq_true_eq]; omega
    go_enter Tryz.func50, Tryz.ntmps50
    go_wp2
    go_ret2
    exact ⟨by rw [E.out]; rfl, rfl⟩
  · by_cases h2 : 9223372036854775807 < a + b
    · have E := hid (show addS a b = (0, 9) from by unfold addS; rw [if_neg (by omega)])
      have t1 : decide (wrap64 (a + b) < a) = true := by simp only [decide_eq_true_eq]; unfold wrap64; omega
      have t2 : decide (b < 0) = false := by simp only [decide_eq_false_iff_not]; omega
      go_enter Tryz.func50, Tryz.ntmps50
      go_wp2
      go_ret2
      exact ⟨by rw [E.out]; rfl, rfl⟩
    · have E := hid (show addS a b = (a + b, 0) from by unfold addS; rw [if_pos (by omega)])
      have t1 : decide (a + b < a) = decide (b < 0) := by rw [decide_eq_decide]; omega
      by_cases h3 : b < 0
      · have t2 : decide (b < 0) = true := by simp only [decide_eq_true_eq]; omega
        rw [t2] at t1
        go_enter Tryz.func50, Tryz.ntmps50
        go_wp2
        go_ret2
        exact ⟨by rw [E.out]; rfl, rfl⟩
      · have t2 : decide (b < 0) = false := by simp only [decide_eq_false_iff_not]; omega
        rw [t2] at t1
        go_enter Tryz.func50, Tryz.ntmps50
        go_wp2
        go_ret2
        exact ⟨by rw [E.out]; rfl, rfl⟩
def mergeS (p a b : Int) : Int × Int :=
  if p = 1 then (0, 8) else if p = 2 then (a, 0) else if p = 3 then (b, 0) else if p = 4 then (min a b, 0) else if p = 5 then (max a b, 0) else if p = 6 then addS a b else (0, 1)
theorem mergeS_in (p a b : Int) (ha : in64 a) (hb : in64 b) : in64 (mergeS p a b).1 := by
  have := addS_in a b
  unfold in64 at ha hb this ⊢; unfold mergeS
  (repeat' split) <;> first | omega | (simp only []; omega)
theorem six (p : Int) : p = 1 ∨ p = 2 ∨ p = 3 ∨ p = 4 ∨ p = 5 ∨ p = 6 ∨ (p ≠ 1 ∧ p ≠ 2 ∧ p ≠ 3 ∧ p ≠ 4 ∧ p ≠ 5 ∧ p ≠ 6) := by omega
theorem merge_any (p a b : Int) (w : World) (ha : in64 a) (hb : in64 b) :
    Calls Tryz.prog 323 #[.int .i64 p, .int .i64 a, .int .i64 b] w fun e w' => e = .returned (two (mergeS p a b)) ∧ w = w' := by
  have HA := hid ha
  have HB := hid hb
  clear ha hb
  rcases six p with rfl | rfl | rfl | rfl | rfl | rfl | ⟨h1, h2, h3, h4, h5, h6⟩
  · go_enter Tryz.func323, Tryz.ntmps323
    go_wp2
    go_ret2
    exact ⟨rfl, rfl⟩
  · go_enter Tryz.func323, Tryz.ntmps323
    go_wp2
    go_ret2
    exact ⟨rfl, rfl⟩
  · go_enter Tryz.func323, Tryz.ntmps323
    go_wp2
    go_ret2
    exact ⟨rfl, rfl⟩
  · by_cases h : a ≤ b
    · have E := hid (show mergeS 4 a b = (a, 0) from by show (min a b, (0 : Int)) = _; rw [Int.min_eq_left h])
      go_enter Tryz.func323, Tryz.ntmps323
      go_wp2
      go_ret2
      exact ⟨by rw [E.out]; rfl, rfl⟩
    · have E := hid (show mergeS 4 a b = (b, 0) from by show (min a b, (0 : Int)) = _; rw [Int.min_eq_right (by omega)])
      go_enter Tryz.func323, Tryz.ntmps323
      go_wp2
      go_ret2
      exact ⟨by rw [E.out]; rfl, rfl⟩
  · by_cases h : b ≤ a
    · have E := hid (show mergeS 5 a b = (a, 0) from by show (max a b, (0 : Int)) = _; rw [Int.max_eq_left h])
      go_enter Tryz.func323, Tryz.ntmps323
      go_wp2
      go_ret2
      exact ⟨by rw [E.out]; rfl, rfl⟩
    · have E := hid (show mergeS 5 a b = (b, 0) from by show (max a b, (0 : Int)) = _; rw [Int.max_eq_right (by omega)])
      go_enter Tryz.func323, Tryz.ntmps323
      go_wp2
      go_ret2
      exact ⟨by rw [E.out]; rfl, rfl⟩
  · have E := hid (show mergeS 6 a b = addS a b from rfl)
    go_enter Tryz.func323, Tryz.ntmps323
    go_wp2_with fail
    refine (add_any a b w HA.out HB.out).mono ?_
    rintro e w' ⟨rfl, rfl⟩
    generalize addS a b = x at *
    obtain ⟨x1, x2⟩ := x
    unfold two
    go_wp2
    go_ret2
    exact ⟨by rw [E.out]; rfl, rfl⟩
  · have E := hid (show mergeS p a b = (0, 1) from by unfold mergeS; rw [if_neg h1, if_neg h2, if_neg h3, if_neg h4, if_neg h5, if_neg h6])
    have t1 : (p == 1) = false := by simpa using h1
    have t2 : (p == 2) = false := by simpa using h2
    have t3 : (p == 3) = false := by simpa using h3
    have t4 : (p == 4) = false := by simpa using h4
    have t5 : (p == 5) = false := by simpa using h5
    have t6 : (p == 6) = false := by simpa using h6
    clear h1 h2 h3 h4 h5 h6
    go_enter Tryz.func323, Tryz.ntmps323
    go_wp2
    go_ret2
    exact ⟨by rw [E.out]; rfl, rfl⟩
end Go.Proofs.YtmifpfojhlmbkaaGreat
