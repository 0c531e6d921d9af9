/-
  Plain facts of layer 9: labels sorted by their names, keys with their labels, what is found.
-/
import Derived.Test.YtlogkhifgkkjeaaIMap
namespace Go.Proofs.Ytlogkhifgkkjeaa
set_option linter.unusedVariables false
set_option linter.unusedSimpArgs false

abbrev Lb := Tx × Tx
abbrev Ent := Tx × List Lb

/-! Sorted lists of pairs. -/
def insG {β : Type} (x : Tx × β) : List (Tx × β) → List (Tx × β)
  | [] => [x]
  | y :: r => if y.1 < x.1 then y :: insG x r else x :: y :: r
theorem insG_perm {β : Type} (x : Tx × β) : ∀ L : List (Tx × β), (insG x L).Perm (x :: L)
  | [] => List.Perm.refl _
  | y :: r => by
    unfold insG
    split
    · exact ((insG_perm x r).cons y).trans (List.Perm.swap ..)
    · exact List.Perm.refl _
theorem mem_insG {β : Type} {x p : Tx × β} {L : List (Tx × β)} : p ∈ insG x L ↔ p = x ∨ p ∈ L := by rw [(insG_perm x L).mem_iff, List.mem_cons]
theorem keys_insG {β : Type} {x : Tx × β} {k : Tx} {L : List (Tx × β)} : k ∈ keysL (insG x L) ↔ k = x.1 ∨ k ∈ keysL L := by
  unfold keysL
  rw [((insG_perm x L).map Prod.fst).mem_iff, List.map_cons, List.mem_cons]
theorem insG_len {β : Type} (x : Tx × β) (L : List (Tx × β)) : (insG x L).length = L.length + 1 := by rw [(insG_perm x L).length_eq]; rfl
theorem insG_ss {β : Type} {x : Tx × β} : ∀ {L : List (Tx × β)}, SS (keysL L) → x.1 ∉ keysL L → SS (keysL (insG x L))
  | [], _, _ => one_ss _
  | y :: r, h, hx => by
    simp only [keysL, List.map_cons, List.mem_cons, not_or] at h hx
    obtain ⟨h1, h2⟩ := ss_cons.1 h
    unfold insG
    split
    · rename_i k
      show SS (y.1 :: keysL (insG x r))
      refine ss_cons.2 ⟨fun z hz => ?_, insG_ss h2 hx.2⟩
      rcases keys_insG.1 hz with e | e
      · rw [e]; exact k
      · exact h1 z e
    · rename_i k
      have k2 : x.1 < y.1 := by
        rcases lt_3 x.1 y.1 with q | q | q
        · exact q
        · exact absurd q hx.1
        · exact absurd q k
      show SS (x.1 :: y.1 :: keysL r)
      refine ss_cons.2 ⟨fun z hz => ?_, h⟩
      rcases List.mem_cons.1 hz with e | e
      · rw [e]; exact k2
      · exact lt_tr k2 (h1 z e)
/-- Two lists of the same pairs, sorted by different firsts, are one. -/
theorem ssG_ext {β : Type} : ∀ {a b : List (Tx × β)}, SS (keysL a) → SS (keysL b) → (∀ p, p ∈ a ↔ p ∈ b) → a = b
  | [], [], _, _, _ => rfl
  | [], y :: b, _, _, h => by have := (h y).2 (by simp); cases this
  | x :: a, [], _, _, h => by have := (h x).1 (by simp); cases this
  | x :: a, y :: b, ha, hb, h => by
    obtain ⟨a1, a2⟩ := ss_cons.1 (show SS (x.1 :: keysL a) from ha)
    obtain ⟨b1, b2⟩ := ss_cons.1 (show SS (y.1 :: keysL b) from hb)
    have ka : ∀ z ∈ a, x.1 < z.1 := fun z hz => a1 _ (List.mem_map.2 ⟨z, hz, rfl⟩)
    have kb : ∀ z ∈ b, y.1 < z.1 := fun z hz => b1 _ (List.mem_map.2 ⟨z, hz, rfl⟩)
    have e : x = y := by
      rcases List.mem_cons.1 ((h x).1 (by simp)) with e | e
      · exact e
      · rcases List.mem_cons.1 ((h y).2 (by simp)) with e' | e'
        · exact e'.symm
        · exact absurd (kb x e) (lt_as (ka y e'))
    subst e
    rw [ssG_ext a2 b2 (fun p => ?_)]
    have hp := h p
    simp only [List.mem_cons] at hp
    constructor
    · intro m
      rcases hp.1 (.inr m) with e | e
      · subst e; exact absurd (ka p m) (lt_no _)
      · exact e
    · intro m
      rcases hp.2 (.inr m) with e | e
      · subst e; exact absurd (kb p m) (lt_no _)
      · exact e
theorem ss_dels {β : Type} {L : List (Tx × β)} {k : Tx} (h : SS (keysL L)) : SS (keysL (dels L k)) := by
  unfold SS keysL at *
  rw [List.pairwise_map] at *
  unfold dels
  exact List.Pairwise.filter _ h
theorem ssG_nodup {β : Type} {L : List (Tx × β)} (h : SS (keysL L)) : (keysL L).Nodup := ss_nodup h
theorem dels_len {β : Type} (L : List (Tx × β)) (k : Tx) : (dels L k).length ≤ L.length := List.length_filter_le ..

/-! Labels. -/
def keyB (s : Tx) : Prop := 1 ≤ s.length ∧ s.length ≤ 64
instance (s : Tx) : Decidable (keyB s) := inferInstanceAs (Decidable (_ ∧ _))
def rightL (l : List Lb) : Prop := l.length ≤ 8 ∧ (∀ x ∈ l, keyB x.1 ∧ keyB x.2) ∧ (keysL l).Nodup
instance (l : List Lb) : Decidable (rightL l) := inferInstanceAs (Decidable (_ ∧ _ ∧ _))
/-- Labels by their names. -/
def srt (l : List Lb) : List Lb := l.foldl (fun o x => insG x o) []
theorem foldl_insG {β : Type} : ∀ (l o : List (Tx × β)), (l.foldl (fun o x => insG x o) o).Perm (l ++ o)
  | [], o => List.Perm.refl _
  | x :: l, o => by
    rw [List.foldl_cons]
    refine (foldl_insG l (insG x o)).trans ?_
    exact ((insG_perm x o).append_left l).trans List.perm_middle
theorem srt_perm (l : List Lb) : (srt l).Perm l := by have := foldl_insG l []; rwa [List.append_nil] at this
theorem mem_srt {l : List Lb} {x : Lb} : x ∈ srt l ↔ x ∈ l := (srt_perm l).mem_iff
theorem srt_len (l : List Lb) : (srt l).length = l.length := (srt_perm l).length_eq
theorem foldl_ss {β : Type} : ∀ (l o : List (Tx × β)), SS (keysL o) → (keysL l).Nodup → (∀ k ∈ keysL l, k ∉ keysL o) → SS (keysL (l.foldl (fun o x => insG x o) o))
  | [], o, h, _, _ => h
  | x :: l, o, h, hn, hd => by
    rw [List.foldl_cons]
    simp only [keysL, List.map_cons, List.nodup_cons] at hn
    refine foldl_ss l (insG x o) (insG_ss h (hd x.1 (by simp [keysL]))) hn.2 (fun k hk hm => ?_)
    rcases keys_insG.1 hm with e | e
    · rw [e] at hk; exact hn.1 hk
    · exact hd k (by simp only [keysL, List.map_cons, List.mem_cons]; exact .inr hk) e
theorem srt_ss {l : List Lb} (h : (keysL l).Nodup) : SS (keysL (srt l)) := foldl_ss l [] ss_nil h (fun _ _ hm => by simp [keysL] at hm)
theorem srt_of {l d : List Lb} (h : (keysL l).Nodup) (hd : SS (keysL d)) (hp : d.Perm l) : d = srt l :=
  ssG_ext hd (srt_ss h) (fun p => by rw [hp.mem_iff, mem_srt])
theorem srt_self {l : List Lb} (h : SS (keysL l)) : srt l = l := (srt_of (ssG_nodup h) h (List.Perm.refl _)).symm
theorem right_perm {l d : List Lb} (h : rightL l) (hp : d.Perm l) : rightL d :=
  ⟨by rw [hp.length_eq]; exact h.1, fun x hx => h.2.1 x (hp.mem_iff.1 hx), (hp.map Prod.fst).nodup_iff.2 h.2.2⟩
theorem right_srt {l : List Lb} (h : rightL l) : rightL (srt l) := right_perm h (srt_perm l)
/-- One name, one value. -/
theorem one_value {l : List Lb} (h : (keysL l).Nodup) {n v v' : Tx} (h1 : (n, v) ∈ l) (h2 : (n, v') ∈ l) : v = v' := by
  have e1 := mem_look h h1
  have e2 := mem_look h h2
  rw [e1] at e2
  simpa using e2

/-! Keys with their labels. -/
structure GoodE (E : List Ent) : Prop where
  ss : SS (keysL E)
  key : ∀ p ∈ E, keyB p.1
  right : ∀ p ∈ E, rightL p.2
  srt : ∀ p ∈ E, SS (keysL p.2)
theorem GoodE.nil : GoodE [] := ⟨ss_nil, by simp, by simp, by simp⟩
theorem GoodE.ins {E : List Ent} (h : GoodE E) {k : Tx} {l : List Lb} (hk : keyB k) (hl : rightL l) (hs : SS (keysL l)) (hn : k ∉ keysL E) : GoodE (insG (k, l) E) :=
  ⟨insG_ss h.ss hn, fun p hp => by rcases mem_insG.1 hp with e | e; · rw [e]; exact hk
                                   · exact h.key p e,
   fun p hp => by rcases mem_insG.1 hp with e | e; · rw [e]; exact hl
                  · exact h.right p e,
   fun p hp => by rcases mem_insG.1 hp with e | e; · rw [e]; exact hs
                  · exact h.srt p e⟩
theorem GoodE.dels {E : List Ent} (h : GoodE E) (k : Tx) : GoodE (dels E k) :=
  ⟨ss_dels h.ss, fun p hp => h.key p (mem_dels.1 hp).1, fun p hp => h.right p (mem_dels.1 hp).1, fun p hp => h.srt p (mem_dels.1 hp).1⟩
/-- Set. -/
def setE (k : Tx) (l : List Lb) (E : List Ent) : List Ent := insG (k, srt l) (dels E k)
def okE (k : Tx) (l : List Lb) : Prop := keyB k ∧ rightL l
instance (k : Tx) (l : List Lb) : Decidable (okE k l) := inferInstanceAs (Decidable (_ ∧ _))
def stepE (k : Tx) (l : List Lb) (E : List Ent) : List Ent := if okE k l then setE k l E else E
theorem dels_not {β : Type} (L : List (Tx × β)) (k : Tx) : k ∉ keysL (dels L k) := fun h => (keys_dels.1 h).2 rfl
theorem GoodE.set {E : List Ent} (h : GoodE E) {k : Tx} {l : List Lb} (ho : okE k l) : GoodE (setE k l E) :=
  (h.dels k).ins ho.1 (right_srt ho.2) (srt_ss ho.2.2.2) (dels_not E k)
theorem GoodE.step {E : List Ent} (h : GoodE E) (k : Tx) (l : List Lb) : GoodE (stepE k l E) := by
  unfold stepE
  split
  · rename_i ho; exact h.set ho
  · exact h
theorem set_len (k : Tx) (l : List Lb) (E : List Ent) : (setE k l E).length ≤ E.length + 1 := by
  unfold setE
  rw [insG_len]
  have := dels_len E k; omega
theorem step_len (k : Tx) (l : List Lb) (E : List Ent) : (stepE k l E).length ≤ E.length + 1 := by
  unfold stepE
  split
  · exact set_len ..
  · omega
theorem look_set_same (k : Tx) (l : List Lb) {E : List Ent} (h : SS (keysL E)) : look (setE k l E) k = some (srt l) :=
  mem_look (ssG_nodup (insG_ss (ss_dels h) (dels_not E k))) (mem_insG.2 (.inl rfl))

/-- A label of a key. -/
def SOf (E : List Ent) (n v k : Tx) : Prop := ∃ l, (k, l) ∈ E ∧ (n, v) ∈ l
theorem SOf.key {E : List Ent} {n v k : Tx} (h : SOf E n v k) : k ∈ keysL E := by
  obtain ⟨l, h1, _⟩ := h
  exact List.mem_map.2 ⟨_, h1, rfl⟩
theorem SOf.fun_ {E : List Ent} (h : GoodE E) {n v v' k : Tx} (h1 : SOf E n v k) (h2 : SOf E n v' k) : v = v' := by
  obtain ⟨l, a1, a2⟩ := h1
  obtain ⟨l', b1, b2⟩ := h2
  have e1 := mem_look (ssG_nodup h.ss) a1
  have e2 := mem_look (ssG_nodup h.ss) b1
  rw [e1] at e2
  simp only [Option.some.injEq] at e2
  subst e2
  exact one_value (h.right _ a1).2.2 a2 b2
theorem SOf_ins {E : List Ent} {k : Tx} {l : List Lb} {n v x : Tx} : SOf (insG (k, l) E) n v x ↔ SOf E n v x ∨ (x = k ∧ (n, v) ∈ l) := by
  constructor
  · rintro ⟨m, h1, h2⟩
    rcases mem_insG.1 h1 with e | e
    · simp only [Prod.mk.injEq] at e
      obtain ⟨rfl, rfl⟩ := e
      exact .inr ⟨rfl, h2⟩
    · exact .inl ⟨m, e, h2⟩
  · rintro (⟨m, h1, h2⟩ | ⟨rfl, h2⟩)
    · exact ⟨m, mem_insG.2 (.inr h1), h2⟩
    · exact ⟨l, mem_insG.2 (.inl rfl), h2⟩
theorem SOf_dels {E : List Ent} (h : GoodE E) {k : Tx} {l : List Lb} (hl : look E k = some l) {n v x : Tx} : SOf (dels E k) n v x ↔ SOf E n v x ∧ ¬ (x = k ∧ (n, v) ∈ l) := by
  constructor
  · rintro ⟨m, h1, h2⟩
    obtain ⟨h3, h4⟩ := mem_dels.1 h1
    exact ⟨⟨m, h3, h2⟩, fun e => h4 e.1⟩
  · rintro ⟨⟨m, h1, h2⟩, h3⟩
    refine ⟨m, mem_dels.2 ⟨h1, fun e => h3 ⟨e, ?_⟩⟩, h2⟩
    have e1 := mem_look (ssG_nodup h.ss) h1
    rw [show x = k from e, hl] at e1
    simp only [Option.some.injEq] at e1
    rw [e1]; exact h2

/-- What is found. -/
def findE (E : List Ent) (n v : Tx) : List Tx := keysL (E.filter fun p => decide ((n, v) ∈ p.2))
def withE (E : List Ent) (n : Tx) : List Tx := keysL (E.filter fun p => decide (n ∈ keysL p.2))
def sizeE (E : List Ent) : Nat := (E.map fun p => p.2.length).sum
theorem ss_filterE {E : List Ent} (h : SS (keysL E)) (f : Ent → Bool) : SS (keysL (E.filter f)) := by
  unfold SS keysL at *
  rw [List.pairwise_map] at *
  exact List.Pairwise.filter _ h
theorem find_ss {E : List Ent} (h : SS (keysL E)) (n v : Tx) : SS (findE E n v) := ss_filterE h _
theorem with_ss {E : List Ent} (h : SS (keysL E)) (n : Tx) : SS (withE E n) := ss_filterE h _
theorem mem_find {E : List Ent} {n v k : Tx} : k ∈ findE E n v ↔ SOf E n v k := by
  unfold findE keysL
  rw [List.mem_map]
  constructor
  · rintro ⟨p, hp, rfl⟩
    obtain ⟨h1, h2⟩ := List.mem_filter.1 hp
    exact ⟨p.2, h1, of_decide_eq_true h2⟩
  · rintro ⟨l, h1, h2⟩
    exact ⟨(k, l), List.mem_filter.2 ⟨h1, decide_eq_true h2⟩, rfl⟩
theorem mem_with {E : List Ent} {n k : Tx} : k ∈ withE E n ↔ ∃ v, SOf E n v k := by
  unfold withE
  rw [keysL, List.mem_map]
  constructor
  · rintro ⟨p, hp, rfl⟩
    obtain ⟨h1, h2⟩ := List.mem_filter.1 hp
    obtain ⟨q, hq, e⟩ := List.mem_map.1 (of_decide_eq_true h2)
    exact ⟨q.2, p.2, h1, by rw [← e]; exact hq⟩
  · rintro ⟨v, l, h1, h2⟩
    exact ⟨(k, l), List.mem_filter.2 ⟨h1, decide_eq_true (List.mem_map.2 ⟨_, h2, rfl⟩)⟩, rfl⟩
theorem canon_find {E : List Ent} (h : SS (keysL E)) {n v : Tx} {l : List Tx} (hl : ∀ k, k ∈ l ↔ SOf E n v k) : canon l = findE E n v :=
  (canon_eq (find_ss h n v) (fun x => by rw [mem_find, hl])).symm
theorem canon_with {E : List Ent} (h : SS (keysL E)) {n : Tx} {l : List Tx} (hl : ∀ k, k ∈ l ↔ ∃ v, SOf E n v k) : canon l = withE E n :=
  (canon_eq (with_ss h n) (fun x => by rw [mem_with, hl])).symm
theorem canon_keys {E : List Ent} (h : SS (keysL E)) {l : List Tx} (hl : l.Perm (keysL E)) : canon l = keysL E :=
  (canon_eq h (fun x => hl.mem_iff.symm)).symm
theorem find_with {E : List Ent} {n v k : Tx} (h : k ∈ findE E n v) : k ∈ withE E n := mem_with.2 ⟨v, mem_find.1 h⟩
theorem filter_len_le {α : Type} (f g : α → Bool) : ∀ (l : List α), (∀ x ∈ l, f x = true → g x = true) → (l.filter f).length ≤ (l.filter g).length
  | [], _ => Nat.le_refl _
  | x :: l, h => by
    have ih := filter_len_le f g l (fun y hy => h y (List.mem_cons_of_mem _ hy))
    cases hf : f x
    · rw [List.filter_cons_of_neg (by simp [hf])]
      cases hg : g x
      · rw [List.filter_cons_of_neg (by simp [hg])]; exact ih
      · rw [List.filter_cons_of_pos hg, List.length_cons]; omega
    · rw [List.filter_cons_of_pos hf, List.filter_cons_of_pos (h x (by simp) hf), List.length_cons, List.length_cons]; omega
theorem find_len (E : List Ent) (n v : Tx) : (findE E n v).length ≤ (withE E n).length := by
  unfold findE withE keysL
  rw [List.length_map, List.length_map]
  exact filter_len_le _ _ E (fun p _ h => decide_eq_true (List.mem_map.2 ⟨_, of_decide_eq_true h, rfl⟩))
theorem with_len (E : List Ent) (n : Tx) : (withE E n).length ≤ E.length := by
  unfold withE keysL
  rw [List.length_map]
  exact List.length_filter_le ..
theorem size_perm {A B : List Ent} (h : A.Perm B) : sizeE A = sizeE B := by
  unfold sizeE
  exact (h.map _).sum_nat
theorem size_ins (p : Ent) (E : List Ent) : sizeE (insG p E) = sizeE E + p.2.length := by
  rw [size_perm (insG_perm p E)]
  unfold sizeE
  rw [List.map_cons, List.sum_cons]; omega
theorem size_dels {E : List Ent} (k : Tx) (h : (keysL E).Nodup) : sizeE (dels E k) + ((look E k).getD []).length = sizeE E := by
  induction E with
  | nil => rfl
  | cons p E ih =>
    simp only [keysL, List.map_cons, List.nodup_cons] at h
    unfold look
    by_cases e : p.1 = k
    · rw [if_pos e]
      have hk : k ∉ keysL E := by rw [← e]; exact h.1
      have : dels (p :: E) k = E := by
        unfold dels
        rw [List.filter_cons_of_neg (by simp [e])]
        exact dels_absent hk
      rw [this]
      unfold sizeE
      simp; omega
    · rw [if_neg e]
      have ih' := ih h.2
      have : dels (p :: E) k = p :: dels E k := by
        unfold dels
        rw [List.filter_cons_of_pos (by simp [e])]
      rw [this]
      unfold sizeE at *
      simp only [List.map_cons, List.sum_cons]; omega
theorem size_le (E : List Ent) (h : ∀ p ∈ E, rightL p.2) : sizeE E ≤ 8 * E.length := by
  induction E with
  | nil => simp [sizeE]
  | cons p E ih =>
    have h1 := ih (fun q hq => h q (List.mem_cons_of_mem _ hq))
    have h2 := (h p (by simp)).1
    unfold sizeE at *
    simp only [List.map_cons, List.sum_cons, List.length_cons]; omega
theorem len_le_of {α : Type} [DecidableEq α] : ∀ {a b : List α}, a.Nodup → (∀ x ∈ a, x ∈ b) → a.length ≤ b.length
  | [], b, _, _ => Nat.zero_le _
  | x :: a, b, hn, h => by
    obtain ⟨h1, h2⟩ := List.nodup_cons.1 hn
    have hx := h x (by simp)
    have := len_le_of (a := a) (b := b.erase x) h2 (fun y hy => (List.mem_erase_of_ne (fun e => h1 (by rw [← e]; exact hy))).2 (h y (List.mem_cons_of_mem _ hy)))
    have hb := List.length_erase_of_mem hx
    have hp := List.length_pos_of_mem hx
    rw [List.length_cons]; omega

end Go.Proofs.Ytlogkhifgkkjeaa
