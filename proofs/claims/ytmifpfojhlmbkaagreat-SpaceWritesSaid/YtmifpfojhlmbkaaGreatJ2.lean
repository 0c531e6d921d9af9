/-
  Contracts.
-/
import Derived.Test.YtmifpfojhlmbkaaGreatJ0
import Derived.Test.YtmifpfojhlmbkaaGreatJ1
import Derived.Deep.RegionHeld3
import Derived.Laws.StructEq
namespace Go.Proofs.YtmifpfojhlmbkaaGreat
open Lib (hid)
set_option maxRecDepth 100000
set_option maxHeartbeats 16000000
set_option linter.unusedVariables false
set_option linter.unusedSimpArgs false
abbrev Lb := Tx × Tx
abbrev Ent := Tx × List Lb
def insG {β : Type} (x : Tx × β) : List (Tx × β) → List (Tx × β)
  | [] => [x]
  | y :: r => if y.1 < x.1 then y :: insG x r else x :: y :: r
theorem insG_perm {β : Type} (x : Tx × β) : ∀ L : List (Tx × β), (insG x L).Perm (x :: L)
  | [] => List.Perm.refl _
  | y :: r => by
    unfold insG
    split
    · exact ((insG_perm x r).cons y).trans (List.Perm.swap ..)
    · exact List.Perm.refl _
theorem mem_insG {β : Type} {x p : Tx × β} {L : List (Tx × β)} : p ∈ insG x L ↔ p = x ∨ p ∈ L := by rw [(insG_perm x L).mem_iff, List.mem_cons]
theorem keys_insG {β : Type} {x : Tx × β} {k : Tx} {L : List (Tx × β)} : k ∈ keysL (insG x L) ↔ k = x.1 ∨ k ∈ keysL L := by
  unfold keysL
  rw [((insG_perm x L).map Prod.fst).mem_iff, List.map_cons, List.mem_cons]
theorem insG_len {β : Type} (x : Tx × β) (L : List (Tx × β)) : (insG x L).length = L.length + 1 := by rw [(insG_perm x L).length_eq]; rfl
theorem insG_ss {β : Type} {x : Tx × β} : ∀ {L : List (Tx × β)}, SS (keysL L) → x.1 ∉ keysL L → SS (keysL (insG x L))
  | [], _, _ => one_ss _
  | y :: r, h, hx => by
    simp only [keysL, List.map_cons, List.mem_cons, not_or] at h hx
    obtain ⟨h1, h2⟩ := ss_cons.1 h
    unfold insG
    split
    · rename_i k
      show SS (y.1 :: keysL (insG x r))
      refine ss_cons.2 ⟨fun z hz => ?_, insG_ss h2 hx.2⟩
      rcases keys_insG.1 hz with e | e
      · rw [e]; exact k
      · exact h1 z e
    · rename_i k
      have k2 : x.1 < y.1 := by
        rcases lt_3 x.1 y.1 with q | q | q
        · exact q
        · exact absurd q hx.1
        · exact absurd q k
      show SS (x.1 :: y.1 :: keysL r)
      refine ss_cons.2 ⟨fun z hz => ?_, h⟩
      rcases List.mem_cons.1 hz with e | e
      · rw [e]; exact k2
      · exact lt_tr k2 (h1 z e)
theorem ssG_ext {β : Type} : ∀ {a b : List (Tx × β)}, SS (keysL a) → SS (keysL b) → (∀ p, p ∈ a ↔ p ∈ b) → a = b
  | [], [], _, _, _ => rfl
  | [], y :: b, _, _, h => by have := (h y).2 (by simp); cases this
  | x :: a, [], _, _, h => by have := (h x).1 (by simp); cases this
  | x :: a, y :: b, ha, hb, h => by
    obtain ⟨a1, a2⟩ := ss_cons.1 (show SS (x.1 :: keysL a) from ha)
    obtain ⟨b1, b2⟩ := ss_cons.1 (show SS (y.1 :: keysL b) from hb)
    have ka : ∀ z ∈ a, x.1 < z.1 := fun z hz => a1 _ (List.mem_map.2 ⟨z, hz, rfl⟩)
    have kb : ∀ z ∈ b, y.1 < z.1 := fun z hz => b1 _ (List.mem_map.2 ⟨z, hz, rfl⟩)
    have e : x = y := by
      rcases List.mem_cons.1 ((h x).1 (by simp)) with e | e
      · exact e
      · rcases List.mem_cons.1 ((h y).2 (by simp)) with e' | e'
        · exact e'.symm
        · exact absurd (kb x e) (lt_as (ka y e'))
    subst e
    rw [ssG_ext a2 b2 (fun p => ?_)]
    have hp := h p
    simp only [List.mem_cons] at hp
    constructor
    · intro m
      rcases hp.1 (.inr m) with e | e
      · subst e; exact absurd (ka p m) (lt_no _)
      · exact e
    · intro m
      rcases hp.2 (.inr m) with e | e
      · subst e; exact absurd (kb p m) (lt_no _)
      · exact e
theorem ss_dels {β : Type} {L : List (Tx × β)} {k : Tx} (h : SS (keysL L)) : SS (keysL (dels L k)) := by
  unfold SS keysL at *
  rw [List.pairwise_map] at *
  unfold dels
  exact List.Pairwise.filter _ h
theorem ssG_nodup {β : Type} {L : List (Tx × β)} (h : SS (keysL L)) : (keysL L).Nodup := ss_nodup h
theorem dels_len {β : Type} (L : List (Tx × β)) (k : Tx) : (dels L k).length ≤ L.length := List.length_filter_le ..
def keyB (s : Tx) : Prop := 1 ≤ s.length ∧ s.length ≤ 64
instance (s : Tx) : Decidable (keyB s) := inferInstanceAs (Decidable (_ ∧ _))
def rightL (l : List Lb) : Prop := l.length ≤ 8 ∧ (∀ x ∈ l, keyB x.1 ∧ keyB x.2) ∧ (keysL l).Nodup
instance (l : List Lb) : Decidable (rightL l) := inferInstanceAs (Decidable (_ ∧ _ ∧ _))
def srt (l : List Lb) : List Lb := l.foldl (fun o x => insG x o) []
theorem foldl_insG {β : Type} : ∀ (l o : List (Tx × β)), (l.foldl (fun o x => insG x o) o).Perm (l ++ o)
  | [], o => List.Perm.refl _
  | x :: l, o => by
    rw [List.foldl_cons]
    refine (foldl_insG l (insG x o)).trans ?_
    exact ((insG_perm x o).append_left l).trans List.perm_middle
theorem srt_perm (l : List Lb) : (srt l).Perm l := by have := foldl_insG l []; rwa [List.append_nil] at this
theorem mem_srt {l : List Lb} {x : Lb} : x ∈ srt l ↔ x ∈ l := (srt_perm l).mem_iff
theorem srt_len (l : List Lb) : (srt l).length = l.length := (srt_perm l).length_eq
theorem foldl_ss {β : Type} : ∀ (l o : List (Tx × β)), SS (keysL o) → (keysL l).Nodup → (∀ k ∈ keysL l, k ∉ keysL o) → SS (keysL (l.foldl (fun o x => insG x o) o))
  | [], o, h, _, _ => h
  | x :: l, o, h, hn, hd => by
    rw [List.foldl_cons]
    simp only [keysL, List.map_cons, List.nodup_cons] at hn
    refine foldl_ss l (insG x o) (insG_ss h (hd x.1 (by simp [keysL]))) hn.2 (fun k hk hm => ?_)
    rcases keys_insG.1 hm with e | e
    · rw [e] at hk; exact hn.1 hk
    · exact hd k (by simp only [keysL, List.map_cons, List.mem_cons]; exact .inr hk) e
theorem srt_ss {l : List Lb} (h : (keysL l).Nodup) : SS (keysL (srt l)) := foldl_ss l [] ss_nil h (fun _ _ hm => by simp [keysL] at hm)
theorem srt_of {l d : List Lb} (h : (keysL l).Nodup) (hd : SS (keysL d)) (hp : d.Perm l) : d = srt l :=
  ssG_ext hd (srt_ss h) (fun p => by rw [hp.mem_iff, mem_srt])
theorem right_perm {l d : List Lb} (h : rightL l) (hp : d.Perm l) : rightL d :=
  ⟨by rw [hp.length_eq]; exact h.1, fun x hx => h.2.1 x (hp.mem_iff.1 hx), (hp.map Prod.fst).nodup_iff.2 h.2.2⟩
theorem right_srt {l : List Lb} (h : rightL l) : rightL (srt l) := right_perm h (srt_perm l)
structure GoodE (E : List Ent) : Prop where
  ss : SS (keysL E)
  key : ∀ p ∈ E, keyB p.1
  right : ∀ p ∈ E, rightL p.2
  srt : ∀ p ∈ E, SS (keysL p.2)
theorem GoodE.nil : GoodE [] := ⟨ss_nil, by simp, by simp, by simp⟩
theorem GoodE.ins {E : List Ent} (h : GoodE E) {k : Tx} {l : List Lb} (hk : keyB k) (hl : rightL l) (hs : SS (keysL l)) (hn : k ∉ keysL E) : GoodE (insG (k, l) E) :=
  ⟨insG_ss h.ss hn, fun p hp => by rcases mem_insG.1 hp with e | e; · rw [e]; exact hk
                                   · exact h.key p e,
   fun p hp => by rcases mem_insG.1 hp with e | e; · rw [e]; exact hl
                  · exact h.right p e,
   fun p hp => by rcases mem_insG.1 hp with e | e; · rw [e]; exact hs
                  · exact h.srt p e⟩
theorem GoodE.dels {E : List Ent} (h : GoodE E) (k : Tx) : GoodE (dels E k) :=
  ⟨ss_dels h.ss, fun p hp => h.key p (mem_dels.1 hp).1, fun p hp => h.right p (mem_dels.1 hp).1, fun p hp => h.srt p (mem_dels.1 hp).1⟩
def setE (k : Tx) (l : List Lb) (E : List Ent) : List Ent := insG (k, srt l) (dels E k)
def okE (k : Tx) (l : List Lb) : Prop := keyB k ∧ rightL l
instance (k : Tx) (l : List Lb) : Decidable (okE k l) := inferInstanceAs (Decidable (_ ∧ _))
def stepE (k : Tx) (l : List Lb) (E : List Ent) : List Ent := if okE k l then setE k l E else E
theorem dels_not {β : Type} (L : List (Tx × β)) (k : Tx) : k ∉ keysL (dels L k) := fun h => (keys_dels.1 h).2 rfl
theorem set_len (k : Tx) (l : List Lb) (E : List Ent) : (setE k l E).length ≤ E.length + 1 := by
  unfold setE
  rw [insG_len]
  have := dels_len E k; omega
def SOf (E : List Ent) (n v k : Tx) : Prop := ∃ l, (k, l) ∈ E ∧ (n, v) ∈ l
theorem SOf_ins {E : List Ent} {k : Tx} {l : List Lb} {n v x : Tx} : SOf (insG (k, l) E) n v x ↔ SOf E n v x ∨ (x = k ∧ (n, v) ∈ l) := by
  constructor
  · rintro ⟨m, h1, h2⟩
    rcases mem_insG.1 h1 with e | e
    · simp only [Prod.mk.injEq] at e
      obtain ⟨rfl, rfl⟩ := e
      exact .inr ⟨rfl, h2⟩
    · exact .inl ⟨m, e, h2⟩
  · rintro (⟨m, h1, h2⟩ | ⟨rfl, h2⟩)
    · exact ⟨m, mem_insG.2 (.inr h1), h2⟩
    · exact ⟨l, mem_insG.2 (.inl rfl), h2⟩
theorem SOf_dels {E : List Ent} (h : GoodE E) {k : Tx} {l : List Lb} (hl : look E k = some l) {n v x : Tx} : SOf (dels E k) n v x ↔ SOf E n v x ∧ ¬ (x = k ∧ (n, v) ∈ l) := by
  constructor
  · rintro ⟨m, h1, h2⟩
    obtain ⟨h3, h4⟩ := mem_dels.1 h1
    exact ⟨⟨m, h3, h2⟩, fun e => h4 e.1⟩
  · rintro ⟨⟨m, h1, h2⟩, h3⟩
    refine ⟨m, mem_dels.2 ⟨h1, fun e => h3 ⟨e, ?_⟩⟩, h2⟩
    have e1 := mem_look (ssG_nodup h.ss) h1
    rw [show x = k from e, hl] at e1
    simp only [Option.some.injEq] at e1
    rw [e1]; exact h2
theorem canon_keys {E : List Ent} (h : SS (keysL E)) {l : List Tx} (hl : l.Perm (keysL E)) : canon l = keysL E :=
  (canon_eq h (fun x => hl.mem_iff.symm)).symm
theorem len_le_of {α : Type} [DecidableEq α] : ∀ {a b : List α}, a.Nodup → (∀ x ∈ a, x ∈ b) → a.length ≤ b.length
  | [], b, _, _ => Nat.zero_le _
  | x :: a, b, hn, h => by
    obtain ⟨h1, h2⟩ := List.nodup_cons.1 hn
    have hx := h x (by simp)
    have := len_le_of (a := a) (b := b.erase x) h2 (fun y hy => (List.mem_erase_of_ne (fun e => h1 (by rw [← e]; exact hy))).2 (h y (List.mem_cons_of_mem _ hy)))
    have hb := List.length_erase_of_mem hx
    have hp := List.length_pos_of_mem hx
    rw [List.length_cons]; omega
open Go.RowKit
abbrev mp (b : Nat) : Value := .map (some b)
structure Trn (F : Nat → Prop) (w w' : World) : Prop where
  os : w'.os = w.os
  tape : w'.tape = w.tape
  output : w'.output = w.output
  size : w.heap.size ≤ w'.heap.size
  block : ∀ i, i < w.heap.size → ¬ F i → w'.heap[i]? = w.heap[i]?
  cells : ∀ (i : Nat) (c : Array Value) (t : TypeId) (f : Nat × Nat), w.heap[i]? = some (.cells c t f) → w'.heap[i]? = some (.cells c t f)
theorem Trn.refl (F : Nat → Prop) (w : World) : Trn F w w := ⟨rfl, rfl, rfl, Nat.le_refl _, fun _ _ _ => rfl, fun _ _ _ _ h => h⟩
theorem Trn.of {F : Nat → Prop} {w w' : World} (h : Below w.heap.size w w') : Trn F w w' :=
  ⟨h.os, h.tape, h.output, h.size, fun i hi _ => h.block i hi, fun i c t f e => (h.block i (heap_lt e)).trans e⟩
theorem Trn.trans {F G : Nat → Prop} {a b c : World} (h : Trn F a b) (k : Trn G b c) (hG : ∀ i, i < a.heap.size → G i → F i) : Trn F a c :=
  ⟨k.os.trans h.os, k.tape.trans h.tape, k.output.trans h.output, Nat.le_trans h.size k.size,
   fun i hi hf => (k.block i (Nat.lt_of_lt_of_le hi h.size) (fun g => hf (hG i hi g))).trans (h.block i hi hf), fun i c t f e => k.cells i c t f (h.cells i c t f e)⟩
theorem Trn.mono {F G : Nat → Prop} {a b : World} (h : Trn F a b) (hG : ∀ i, i < a.heap.size → F i → G i) : Trn G a b :=
  ⟨h.os, h.tape, h.output, h.size, fun i hi g => h.block i hi (fun f => g (hG i hi f)), h.cells⟩
theorem Trn.thenB {F : Nat → Prop} {a b c : World} (h : Trn F a b) (k : Below b.heap.size b c) : Trn F a c := h.trans (G := fun _ => False) (.of k) (fun _ _ g => g.elim)
theorem Trn.map {F : Nat → Prop} {w w' : World} {b : Nat} (g : w.grownBy w' (some b)) (hb : F b) (hm : ∃ es c, w.heap[b]? = some (.map es c)) : Trn F w w' :=
  ⟨g.os, g.tape, g.output, g.size, fun i hi hf => g.block i hi (fun e => hf (by cases e; exact hb)), fun i c t f e => (g.block i (heap_lt e) (fun e' => by
    cases e'
    obtain ⟨es, cl, hm⟩ := hm
    rw [hm] at e; cases e)).trans e⟩
theorem Trn.drew (F : Nat → Prop) (w : World) : Trn F w w.drew := ⟨rfl, rfl, rfl, Nat.le_refl _, fun _ _ _ => rfl, fun _ _ _ _ h => h⟩
theorem Trn.cell {F : Nat → Prop} {w w' : World} (h : Trn F w w') {a : Addr} {v : Value} (hc : w.cell? a = some v) : w'.cell? a = some v := by
  unfold World.cell? at hc
  split at hc
  · rename_i c t f e
    unfold World.cell?
    rw [h.cells _ _ _ _ e]; exact hc
  · cases hc
theorem Trn.below {F : Nat → Prop} {B : Nat} {w0 w w' : World} (hb : Below B w0 w) (hB : B ≤ w.heap.size) (h : Trn F w w') (hF : ∀ i, i < B → ¬ F i) : Below B w0 w' :=
  ⟨h.os.trans hb.os, h.tape.trans hb.tape, h.output.trans hb.output, Nat.le_trans hb.size h.size, fun i hi => (h.block i (by omega) (hF i hi)).trans (hb.block i hi)⟩
def lN (l : List Lb) (i : Nat) : Tx := (l.getD i ([], [])).1
def lV (l : List Lb) (i : Nat) : Tx := (l.getD i ([], [])).2
theorem lb_get {l : List Lb} {i : Nat} (h : i < l.length) : l[i] = (lN l i, lV l i) := by unfold lN lV; rw [List.getD_eq_getElem?_getD, List.getElem?_eq_getElem h]; rfl
theorem lb_mem {l : List Lb} {i : Nat} (h : i < l.length) : (lN l i, lV l i) ∈ l := by rw [← lb_get h]; exact List.getElem_mem h
def LbAt (w : World) (a : Option Addr) (n c : Nat) (l : List Lb) : Prop :=
  l.length = n ∧ n ≤ c ∧ n ≤ 9223372036854775807 ∧
  (n = 0 ∨ ∃ b off, a = some ⟨b, off, none⟩ ∧ b < w.heap.size ∧ ∀ i, i < n → w.cell? ⟨b, off + i * 2, none⟩ = some (.string (bs (lN l i))) ∧ w.cell? ⟨b, off + i * 2 + 1, none⟩ = some (.string (bs (lV l i))))
theorem LbAt.nil (w : World) (a : Option Addr) (c : Nat) : LbAt w a 0 c [] := ⟨rfl, Nat.zero_le _, by omega, .inl rfl⟩
theorem LbAt.len {w : World} {a : Option Addr} {n c : Nat} {l : List Lb} (h : LbAt w a n c l) : LbAt w a l.length c l := by
  have := h.1
  subst this; exact h
theorem LbAt.trn {F : Nat → Prop} {w w' : World} (t : Trn F w w') {a : Option Addr} {n c : Nat} {l : List Lb} (h : LbAt w a n c l) : LbAt w' a n c l := by
  obtain ⟨h1, h2, h3, h5⟩ := h
  refine ⟨h1, h2, h3, ?_⟩
  rcases h5 with h0 | ⟨b, off, rfl, hlt, hc⟩
  · exact .inl h0
  · exact .inr ⟨b, off, rfl, Nat.lt_of_lt_of_le hlt t.size, fun i hi => ⟨t.cell (hc i hi).1, t.cell (hc i hi).2⟩⟩
theorem LbAt.keep {w w' : World} {a : Option Addr} {n c : Nat} {l : List Lb} (h : LbAt w a n c l) (hb : Below w.heap.size w w') : LbAt w' a n c l := h.trn (F := fun _ => False) (.of hb)
theorem LbAt.at_ {w : World} {a : Option Addr} {n c : Nat} {l : List Lb} (h : LbAt w a n c l) (i : Nat) (hi : i < n) :
    ∃ b off, a = some ⟨b, off, none⟩ ∧ b < w.heap.size ∧ w.cell? ⟨b, off + i * 2, none⟩ = some (.string (bs (lN l i))) ∧ w.cell? ⟨b, off + i * 2 + 1, none⟩ = some (.string (bs (lV l i))) := by
  obtain ⟨h1, h2, h3, h5⟩ := h
  rcases h5 with h0 | ⟨b, off, rfl, hlt, hc⟩
  · omega
  · exact ⟨b, off, rfl, hlt, hc i hi⟩
theorem size_lb (W : World) : (sizeOf (Tryz.prog.elem 28)).run Tryz.prog W = .ok 2 W := by kernel_rfl
theorem LbAt.to_ {w : World} {a : Option Addr} {n c : Nat} {l : List Lb} (h : LbAt w a n c l) (k : Nat) (hk : k ≤ n) : LbAt w a k c (l.take k) := by
  obtain ⟨h1, h2, h3, h5⟩ := h
  refine ⟨by simp; omega, by omega, by omega, ?_⟩
  by_cases hz : k = 0
  · exact .inl hz
  · rcases h5 with h0 | ⟨b, off, rfl, hlt, hc⟩
    · omega
    · refine .inr ⟨b, off, rfl, hlt, fun i hi => ?_⟩
      have e : (l.take k).getD i ([], []) = l.getD i ([], []) := by rw [List.getD_eq_getElem?_getD, List.getD_eq_getElem?_getD, List.getElem?_take, if_pos hi]
      unfold lN lV
      rw [e]; exact hc i (by omega)
def lbCells (l : List Lb) : List Value := l.flatMap fun x => [.string (bs x.1), .string (bs x.2)]
theorem lbCells_length (z : List Lb) : (lbCells z).length = z.length * 2 := by
  induction z with
  | nil => rfl
  | cons x r ih =>
    have e : lbCells (x :: r) = .string (bs x.1) :: .string (bs x.2) :: lbCells r := by simp [lbCells]
    rw [e, List.length_cons, List.length_cons, ih, List.length_cons]; omega
theorem lbCells_append (a b : List Lb) : lbCells (a ++ b) = lbCells a ++ lbCells b := by simp [lbCells]
theorem lbCells_get (z : List Lb) (j : Nat) (h : j < z.length) : (lbCells z)[j * 2]? = some (.string (bs (lN z j))) ∧ (lbCells z)[j * 2 + 1]? = some (.string (bs (lV z j))) := by
  induction z generalizing j with
  | nil => simp at h
  | cons x r ih =>
    have e : lbCells (x :: r) = .string (bs x.1) :: .string (bs x.2) :: lbCells r := by simp [lbCells]
    rw [e]
    cases j with
    | zero => simp [lN, lV]
    | succ j =>
      have h1 := ih j (by simpa using h)
      rw [show (j + 1) * 2 = j * 2 + 1 + 1 from by omega]
      simpa [lN, lV] using h1
theorem lbCells_one (z : List Lb) : ∀ u ∈ lbCells z, u.oneCell' = true := by
  intro u hu
  simp [lbCells] at hu
  rcases hu with ⟨a, b, _, rfl | rfl⟩ <;> rfl
theorem info_lb : (Tryz.prog.info? 100).map (fun i => (i.zero, i.size, i.bytes)) = some (some (.agg #[.string ⟨#[]⟩, .string ⟨#[]⟩]), 2, 32) := by kernel_rfl
def LRow (w : World) (base : Nat) (v : Value) (l : List Lb) : Prop := w.ownsRow base 100 2 v l.length (lbCells l)
theorem LRow.nil (w : World) (base : Nat) : LRow w base (.slice none 0 0) [] := World.ownsRow_nil w base _ _
theorem LRow.shape {w : World} {base : Nat} {v : Value} {l : List Lb} (h : LRow w base v l) : ∃ a cap, v = .slice a l.length cap ∧ LbAt w a l.length cap l := by
  rcases h.2 with ⟨rfl, e⟩ | ⟨g, cap, cur, rfl, hb, hg, hle, hmx, hsz, htk⟩
  · have : l = [] := List.eq_nil_of_length_eq_zero e
    subst this
    exact ⟨none, 0, rfl, LbAt.nil w none 0⟩
  · have hcell : ∀ j u, (lbCells l)[j]? = some u → w.cell? ⟨g, j, none⟩ = some u := fun j u hu => by
      have hjl : j < l.length * 2 := by have := (List.getElem?_eq_some_iff.1 hu).1; rw [lbCells_length] at this; exact this
      rw [cell_of hg]
      rw [← htk, List.getElem?_take, if_pos hjl, Array.getElem?_toList] at hu
      exact hu
    refine ⟨_, cap, rfl, rfl, hle, by unfold maxLen at hmx; omega, .inr ⟨g, 0, rfl, heap_lt hg, fun i hi => ?_⟩⟩
    obtain ⟨e1, e2⟩ := lbCells_get l i hi
    rw [Nat.zero_add]
    exact ⟨hcell _ _ e1, hcell _ _ e2⟩
theorem LRow.bel {w w' w0 : World} {B base : Nat} {v : Value} {l : List Lb} (hb : Below B w0 w) (hs : B ≤ w.heap.size) (hown : LRow w base v l) (hB : B ≤ base) (g : w.grownBy w' v.ownBlock) : Below B w0 w' :=
  hb.grown g hs (fun k hk => Nat.le_trans hB (World.ownsRow.lt hown k hk).1)
theorem LbAt.src {w : World} {a : Option Addr} {n c : Nat} {l : List Lb} (h : LbAt w a n c l) (ad : Addr) (e : a = some ad) : ∀ j u, (lbCells l)[j]? = some u → w.cell? (ad.add j) = some u := by
  intro j u hj
  have hjl : j < l.length * 2 := by have := (List.getElem?_eq_some_iff.1 hj).1; rw [lbCells_length] at this; exact this
  obtain ⟨b, off, e', _, h0, h1⟩ := h.at_ (j / 2) (by rw [← h.1]; omega)
  rw [e] at e'
  simp only [Option.some.injEq] at e'
  subst e'
  obtain ⟨g0, g1⟩ := lbCells_get l (j / 2) (by omega)
  rw [show Addr.add ⟨b, off, none⟩ j = ⟨b, off + j, none⟩ from by simp [Addr.add]]
  rcases Nat.mod_two_eq_zero_or_one j with e0 | e0
  · have ej : j = j / 2 * 2 := by omega
    rw [ej] at hj
    rw [g0] at hj
    rw [ej, h0]; exact hj
  · have ej : j = j / 2 * 2 + 1 := by omega
    rw [ej] at hj
    rw [g1] at hj
    rw [ej, ← Nat.add_assoc, h1]; exact hj
theorem wpList_append_lb {w : World} {ops : Array Oper} {rest : List Oper} {o : Oper} {a : Act} {Q : Exit → Act → World → Prop} (hw : Region.wanted o (yielded ops a.tmps) = true) (s x : Operand)
    (ho : o.op = .call { callee := .builtin .append, args := #[s, x], argTypes := #[28, 28] })
    (base : Nat) (v : Value) (l : List Lb) (hs : a.eval s = v) (hown : LRow w base v l)
    (ax : Option Addr) (m c : Nat) (k : List Lb) (hx : a.eval x = .slice ax m c) (hl : LbAt w ax m c k) (hb : l.length + m ≤ 1048576) (hbase : base ≤ w.heap.size)
    (h : ∀ v' w', LRow w' base v' (l ++ k) → w.grownBy w' v.ownBlock → wpList Tryz.prog ops Q rest (a.put o.dst v') w') : wpList Tryz.prog ops Q (o :: rest) a w := by
  obtain ⟨i0, hi, hz0, hz1, hz2⟩ := info_parts info_lb
  refine wpList_step fun K hK => ?_
  rw [if_pos hw]
  have hm := hl.1
  cases ax with
  | none =>
    have h0 : m = 0 := by
      rcases hl.2.2.2 with e | ⟨b, off, e, _⟩
      · exact e
      · cases e
    subst h0
    have e0 : k = [] := List.eq_nil_of_length_eq_zero hm
    subst e0
    have hrun := run_append_no (P := Tryz.prog) (w := w) base 28 o.type 100 i0 2 c Tryz.underlying28 hi v l.length _ hown
    unfold Oper.wp
    simp [execOp, ho, resolve, invoke, builtin, hs, hx, hrun, Result.andThen]
    refine hK _ _ (h v w ?_ (gb_refl _ _))
    simpa using hown
  | some ad =>
    refine wp_append_own w s x 28 ho base 100 i0 _ 2 32 Tryz.underlying28 hi hz0 hz1 hz2 rfl (by omega) v l.length _ hs hown ad m c (lbCells k) hx (by rw [lbCells_length, hm]) (hl.src ad rfl) (lbCells_one k) (by unfold maxLen; omega) (by omega) hbase ?_
    intro v' w' h2 h3 _
    refine hK _ _ (h v' w' ?_ h3)
    unfold LRow
    rw [List.length_append, lbCells_append, hm]; exact h2
def LbTy (w : World) (a : Option Addr) (l : List Lb) : Prop := l = [] ∨ ∃ b off cs f, a = some ⟨b, off, none⟩ ∧ w.heap[b]? = some (.cells cs 100 f)
theorem LbTy.trn {F : Nat → Prop} {w w' : World} (t : Trn F w w') {a : Option Addr} {l : List Lb} (h : LbTy w a l) : LbTy w' a l := by
  rcases h with h | ⟨b, off, cs, f, e, k⟩
  · exact .inl h
  · exact .inr ⟨b, off, cs, f, e, t.cells _ _ _ _ k⟩
def LbV (w : World) (v : Value) (l : List Lb) : Prop := ∃ a c, v = .slice a l.length c ∧ LbAt w a l.length c l ∧ LbTy w a l
theorem LbV.trn {F : Nat → Prop} {w w' : World} (t : Trn F w w') {v : Value} {l : List Lb} (h : LbV w v l) : LbV w' v l := by
  obtain ⟨a, c, e, k, y⟩ := h
  exact ⟨a, c, e, k.trn t, y.trn t⟩
end Go.Proofs.YtmifpfojhlmbkaaGreat
