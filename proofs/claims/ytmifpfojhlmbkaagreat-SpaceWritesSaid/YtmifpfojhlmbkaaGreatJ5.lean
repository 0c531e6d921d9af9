/-
  Contracts.
-/
import Derived.Test.YtmifpfojhlmbkaaGreatJ2
import Derived.Test.YtmifpfojhlmbkaaGreatJ4
namespace Go.Proofs.YtmifpfojhlmbkaaGreat
open Lib (hid)
set_option maxRecDepth 100000
set_option maxHeartbeats 16000000
set_option linter.unusedVariables false
set_option linter.unusedSimpArgs false
structure Ru where
  src : Tx
  dst : Tx
  kind : Int
  size : Int
  align : Int
instance : Inhabited Ru := ⟨⟨[], [], 0, 0, 0⟩⟩
def zeroU : Ru := ⟨[], [], 0, 0, 0⟩
theorem ru_ext {a b : Ru} (h1 : a.src = b.src) (h2 : a.dst = b.dst) (h3 : a.kind = b.kind) (h4 : a.size = b.size) (h5 : a.align = b.align) : a = b := by
  cases a; cases b; simp_all
theorem ru_iff {a b : Ru} : a = b ↔ a.src = b.src ∧ a.dst = b.dst ∧ a.kind = b.kind ∧ a.size = b.size ∧ a.align = b.align :=
  ⟨fun h => by subst h; exact ⟨rfl, rfl, rfl, rfl, rfl⟩, fun ⟨h1, h2, h3, h4, h5⟩ => ru_ext h1 h2 h3 h4 h5⟩
instance : DecidableEq Ru := fun a b => decidable_of_iff (a.src = b.src ∧ a.dst = b.dst ∧ a.kind = b.kind ∧ a.size = b.size ∧ a.align = b.align) ru_iff.symm
def rightU (r : Ru) : Prop := keyB r.src ∧ keyB r.dst ∧ r.src ≠ r.dst ∧ kok r.kind ∧ rightB r.size r.align
instance (r : Ru) : Decidable (rightU r) := inferInstanceAs (Decidable (_ ∧ _ ∧ _ ∧ _ ∧ _))
def ahU (a b : Ru) : Prop := if a.src = b.src then a.dst < b.dst else a.src < b.src
instance (a b : Ru) : Decidable (ahU a b) := inferInstanceAs (Decidable (ite _ _ _))
theorem ahU_same {a b : Ru} (h : a.src = b.src) : ahU a b ↔ a.dst < b.dst := by unfold ahU; rw [if_pos h]
theorem ahU_ne {a b : Ru} (h : a.src ≠ b.src) : ahU a b ↔ a.src < b.src := by unfold ahU; rw [if_neg h]
theorem ahU_no (a : Ru) : ¬ ahU a a := by rw [ahU_same rfl]; exact lt_no _
theorem ahU_as {a b : Ru} (h : ahU a b) : ¬ ahU b a := by
  by_cases e : a.src = b.src
  · rw [ahU_same e] at h; rw [ahU_same e.symm]; exact lt_as h
  · rw [ahU_ne e] at h; rw [ahU_ne (fun k => e k.symm)]; exact lt_as h
theorem ahU_tr {a b c : Ru} (h : ahU a b) (k : ahU b c) : ahU a c := by
  by_cases e : a.src = b.src
  · by_cases f : b.src = c.src
    · rw [ahU_same e] at h; rw [ahU_same f] at k; rw [ahU_same (e.trans f)]; exact lt_tr h k
    · rw [ahU_ne f] at k; rw [ahU_ne (fun g => f (e.symm.trans g)), e]; exact k
  · rw [ahU_ne e] at h
    by_cases f : b.src = c.src
    · rw [ahU_ne (fun g => e (g.trans f.symm)), ← f]; exact h
    · rw [ahU_ne f] at k
      have := lt_tr h k
      rw [ahU_ne (lt_ne this)]; exact this
theorem ahU_3 (a b : Ru) : ahU a b ∨ (a.src = b.src ∧ a.dst = b.dst) ∨ ahU b a := by
  by_cases e : a.src = b.src
  · rw [ahU_same e, ahU_same e.symm]
    rcases lt_3 a.dst b.dst with h | h | h
    · exact .inl h
    · exact .inr (.inl ⟨e, h⟩)
    · exact .inr (.inr h)
  · rw [ahU_ne e, ahU_ne (fun k => e k.symm)]
    rcases lt_3 a.src b.src with h | h | h
    · exact .inl h
    · exact absurd h e
    · exact .inr (.inr h)
theorem pw_ext {α : Type} {R : α → α → Prop} (hno : ∀ a, ¬ R a a) (has : ∀ a b, R a b → ¬ R b a) : ∀ {a b : List α}, a.Pairwise R → b.Pairwise R → (∀ p, p ∈ a ↔ p ∈ b) → a = b
  | [], [], _, _, _ => rfl
  | [], y :: b, _, _, h => by have := (h y).2 (by simp); cases this
  | x :: a, [], _, _, h => by have := (h x).1 (by simp); cases this
  | x :: a, y :: b, ha, hb, h => by
    obtain ⟨a1, a2⟩ := List.pairwise_cons.1 ha
    obtain ⟨b1, b2⟩ := List.pairwise_cons.1 hb
    have e : x = y := by
      rcases List.mem_cons.1 ((h x).1 (by simp)) with e | e
      · exact e
      · rcases List.mem_cons.1 ((h y).2 (by simp)) with e' | e'
        · exact e'.symm
        · exact absurd (a1 y e') (has _ _ (b1 x e))
    subst e
    rw [pw_ext hno has a2 b2 (fun p => ?_)]
    have hp := h p
    simp only [List.mem_cons] at hp
    constructor
    · intro m
      rcases hp.1 (.inr m) with e | e
      · subst e; exact absurd (a1 p m) (hno _)
      · exact e
    · intro m
      rcases hp.2 (.inr m) with e | e
      · subst e; exact absurd (b1 p m) (hno _)
      · exact e
theorem ah_ext {a b : List Ru} (ha : a.Pairwise ahU) (hb : b.Pairwise ahU) (h : ∀ p, p ∈ a ↔ p ∈ b) : a = b := pw_ext ahU_no (fun _ _ => ahU_as) ha hb h
def intoL (L : List Ru) (d : Tx) : Option Ru := L.find? fun r => decide (r.dst = d)
def ofL (L : List Ru) (s : Tx) : List Ru := L.filter fun r => decide (r.src = s)
def insU (r : Ru) : List Ru → List Ru
  | [] => [r]
  | y :: l => if ahU y r then y :: insU r l else r :: y :: l
def outU (L : List Ru) (r : Ru) : List Ru := L.filter fun x => decide (x ≠ r)
def goneL (L : List Ru) (k : Tx) : List Ru := L.filter fun r => decide (r.src ≠ k ∧ r.dst ≠ k)
structure GoodU (L : List Ru) : Prop where
  ord : L.Pairwise ahU
  right : ∀ r ∈ L, rightU r
  one : ∀ r ∈ L, ∀ s ∈ L, r.dst = s.dst → r = s
  flat : ∀ r ∈ L, ∀ s ∈ L, r.dst ≠ s.src
theorem GoodU.nil : GoodU [] := ⟨List.Pairwise.nil, by simp, by simp, by simp⟩
theorem GoodU.filter {L : List Ru} (h : GoodU L) (p : Ru → Bool) : GoodU (L.filter p) :=
  ⟨List.Pairwise.filter p h.ord, fun r hr => h.right r (List.mem_filter.1 hr).1, fun r hr s hs => h.one r (List.mem_filter.1 hr).1 s (List.mem_filter.1 hs).1,
   fun r hr s hs => h.flat r (List.mem_filter.1 hr).1 s (List.mem_filter.1 hs).1⟩
theorem mem_ofL {L : List Ru} {s : Tx} {r : Ru} : r ∈ ofL L s ↔ r ∈ L ∧ r.src = s := by unfold ofL; rw [List.mem_filter]; simp
theorem into_mem {L : List Ru} {d : Tx} {r : Ru} (h : intoL L d = some r) : r ∈ L ∧ r.dst = d := by
  unfold intoL at h
  exact ⟨List.mem_of_find?_eq_some h, by simpa using List.find?_some h⟩
theorem into_none {L : List Ru} {d : Tx} : intoL L d = none ↔ ∀ r ∈ L, r.dst ≠ d := by
  unfold intoL; rw [List.find?_eq_none]; simp
theorem GoodU.into {L : List Ru} (h : GoodU L) {d : Tx} {r : Ru} : intoL L d = some r ↔ r ∈ L ∧ r.dst = d := by
  refine ⟨into_mem, fun ⟨hr, hd⟩ => ?_⟩
  cases e : intoL L d with
  | none => exact absurd hd (into_none.1 e r hr)
  | some s =>
    obtain ⟨hs, hd2⟩ := into_mem e
    rw [h.one s hs r hr (hd2.trans hd.symm)]
theorem GoodU.into_ext {L M : List Ru} (h : GoodU L) (k : GoodU M) {d : Tx} (e : ∀ r, r.dst = d → (r ∈ L ↔ r ∈ M)) : intoL L d = intoL M d := by
  cases e1 : intoL L d with
  | none =>
    refine (into_none.2 fun r hr hd => ?_).symm
    exact into_none.1 e1 r ((e r hd).2 hr) hd
  | some r =>
    obtain ⟨hr, hd⟩ := h.into.1 e1
    exact (k.into.2 ⟨(e r hd).1 hr, hd⟩).symm
theorem GoodU.of_ext {L M : List Ru} (h : GoodU L) (k : GoodU M) {s : Tx} (e : ∀ r, r.src = s → (r ∈ L ↔ r ∈ M)) : ofL L s = ofL M s := by
  refine ah_ext (List.Pairwise.filter _ h.ord) (List.Pairwise.filter _ k.ord) (fun p => ?_)
  show p ∈ ofL L s ↔ p ∈ ofL M s
  rw [mem_ofL, mem_ofL]
  exact ⟨fun ⟨a, b⟩ => ⟨(e p b).1 a, b⟩, fun ⟨a, b⟩ => ⟨(e p b).2 a, b⟩⟩
theorem ofL_nil {L : List Ru} {s : Tx} : ofL L s = [] ↔ ∀ r ∈ L, r.src ≠ s := by
  unfold ofL; rw [List.filter_eq_nil_iff]; simp
theorem ofL_le (L : List Ru) (s : Tx) : (ofL L s).length ≤ L.length := List.length_filter_le ..
theorem insU_perm (r : Ru) : ∀ L : List Ru, (insU r L).Perm (r :: L)
  | [] => List.Perm.refl _
  | y :: l => by
    unfold insU
    split
    · exact ((insU_perm r l).cons y).trans (List.Perm.swap ..)
    · exact List.Perm.refl _
theorem mem_insU {r p : Ru} {L : List Ru} : p ∈ insU r L ↔ p = r ∨ p ∈ L := by rw [(insU_perm r L).mem_iff, List.mem_cons]
theorem insU_len (r : Ru) (L : List Ru) : (insU r L).length = L.length + 1 := by rw [(insU_perm r L).length_eq]; rfl
theorem insU_ord {r : Ru} : ∀ {L : List Ru}, L.Pairwise ahU → (∀ x ∈ L, ¬ (x.src = r.src ∧ x.dst = r.dst)) → (insU r L).Pairwise ahU
  | [], _, _ => by simp [insU]
  | y :: l, h, hn => by
    obtain ⟨h1, h2⟩ := List.pairwise_cons.1 h
    unfold insU
    split
    · rename_i hy
      refine List.pairwise_cons.2 ⟨fun z hz => ?_, insU_ord h2 (fun x hx => hn x (List.mem_cons_of_mem _ hx))⟩
      rcases mem_insU.1 hz with e | e
      · subst e; exact hy
      · exact h1 z e
    · rename_i hy
      have hr : ahU r y := by
        rcases ahU_3 r y with q | ⟨q1, q2⟩ | q
        · exact q
        · exact absurd ⟨q1.symm, q2.symm⟩ (hn y (by simp))
        · exact absurd q hy
      refine List.pairwise_cons.2 ⟨fun z hz => ?_, h⟩
      rcases List.mem_cons.1 hz with e | e
      · subst e; exact hr
      · exact ahU_tr hr (h1 z e)
def addEG (L : List Ru) (r : Ru) : Int := if ¬ rightU r then 1 else if (intoL L r.dst).isSome then 6 else if ofL L r.dst ≠ [] ∨ (intoL L r.src).isSome then 10 else 0
def addU (L : List Ru) (r : Ru) : List Ru := if addEG L r = 0 then insU r L else L
theorem addE_ok {L : List Ru} {r : Ru} : addEG L r = 0 ↔ rightU r ∧ intoL L r.dst = none ∧ ofL L r.dst = [] ∧ intoL L r.src = none := by
  unfold addEG
  by_cases h1 : rightU r
  · by_cases h2 : (intoL L r.dst).isSome = true
    · rw [if_neg (by simpa using h1), if_pos h2]
      simp [Option.isSome_iff_ne_none.1 h2]
    · have h2' : intoL L r.dst = none := by simpa using h2
      rw [if_neg (by simpa using h1), if_neg h2]
      by_cases h3 : ofL L r.dst ≠ [] ∨ (intoL L r.src).isSome = true
      · rw [if_pos h3]
        simp only [Int.reduceEq, false_iff]
        rintro ⟨_, _, a, b⟩
        rcases h3 with h3 | h3
        · exact h3 a
        · rw [b] at h3; cases h3
      · rw [if_neg h3]
        simp only [true_iff]
        refine ⟨h1, h2', ?_, ?_⟩
        · exact Classical.byContradiction fun k => h3 (.inl k)
        · cases e : intoL L r.src with
          | none => rfl
          | some q => exact absurd (.inr (by rw [e]; rfl)) h3
  · rw [if_pos (by simpa using h1)]
    simp [h1]
theorem GoodU.ins {L : List Ru} {r : Ru} (h : GoodU L) (e : addEG L r = 0) : GoodU (insU r L) := by
  obtain ⟨hr, h1, h2, h3⟩ := addE_ok.1 e
  rw [into_none] at h1 h3
  rw [ofL_nil] at h2
  refine ⟨insU_ord h.ord (fun x hx k => h1 x hx k.2), fun x hx => ?_, fun x hx y hy hd => ?_, fun x hx y hy => ?_⟩
  · rcases mem_insU.1 hx with q | q
    · subst q; exact hr
    · exact h.right x q
  · rcases mem_insU.1 hx with q | q <;> rcases mem_insU.1 hy with p | p
    · rw [q, p]
    · subst q; exact absurd hd.symm (h1 y p)
    · subst p; exact absurd hd (h1 x q)
    · exact h.one x q y p hd
  · rcases mem_insU.1 hx with q | q <;> rcases mem_insU.1 hy with p | p
    · subst q; subst p; exact fun k => hr.2.2.1 k.symm
    · subst q; exact fun k => h2 y p k.symm
    · subst p; exact h3 x q
    · exact h.flat x q y p
theorem into_ins {L : List Ru} {r : Ru} (h : GoodU L) (e : addEG L r = 0) (d : Tx) : intoL (insU r L) d = if d = r.dst then some r else intoL L d := by
  by_cases hd : d = r.dst
  · rw [if_pos hd]; exact (h.ins e).into.2 ⟨mem_insU.2 (.inl rfl), hd.symm⟩
  · rw [if_neg hd]
    refine (h.ins e).into_ext h (fun x hx => ?_)
    rw [mem_insU]
    exact ⟨fun k => k.resolve_left (fun q => hd (by rw [← hx, q])), .inr⟩
theorem of_ins_ne {L : List Ru} {r : Ru} (h : GoodU L) (e : addEG L r = 0) {s : Tx} (hs : s ≠ r.src) : ofL (insU r L) s = ofL L s := by
  refine (h.ins e).of_ext h (fun x hx => ?_)
  rw [mem_insU]
  exact ⟨fun k => k.resolve_left (fun q => hs (by rw [← hx, q])), .inr⟩
def atU (l : List Ru) (d : Tx) : Nat := l.countP fun x => decide (x.dst < d)
theorem atU_le (l : List Ru) (d : Tx) : atU l d ≤ l.length := List.countP_le_length
theorem atU_split {d : Tx} : ∀ {l : List Ru}, l.Pairwise (fun a b => a.dst < b.dst) → (∀ x ∈ l.take (atU l d), x.dst < d) ∧ (∀ x ∈ l.drop (atU l d), ¬ x.dst < d)
  | [], _ => by simp
  | y :: l, h => by
    obtain ⟨h1, h2⟩ := List.pairwise_cons.1 h
    by_cases hy : y.dst < d
    · have e : atU (y :: l) d = atU l d + 1 := by unfold atU; rw [List.countP_cons_of_pos (by simpa using hy)]
      obtain ⟨a, b⟩ := atU_split (d := d) h2
      rw [e, List.take_succ_cons, List.drop_succ_cons]
      refine ⟨fun x hx => ?_, b⟩
      rcases List.mem_cons.1 hx with q | q
      · subst q; exact hy
      · exact a x q
    · have hall : ∀ x ∈ y :: l, ¬ x.dst < d := fun x hx k => by
        rcases List.mem_cons.1 hx with q | q
        · subst q; exact hy k
        · exact hy (lt_tr (h1 x q) k)
      have e : atU (y :: l) d = 0 := by unfold atU; rw [List.countP_eq_zero]; intro x hx; simpa using hall x hx
      rw [e]
      exact ⟨by simp, by simpa using hall⟩
theorem of_dst {L : List Ru} (h : GoodU L) (s : Tx) : (ofL L s).Pairwise (fun a b => a.dst < b.dst) := by
  refine List.Pairwise.imp_of_mem (fun {a b} ha hb hab => ?_) (List.Pairwise.filter _ h.ord)
  have ha : a ∈ ofL L s := ha
  have hb : b ∈ ofL L s := hb
  exact (ahU_same ((mem_ofL.1 ha).2.trans (mem_ofL.1 hb).2.symm)).1 hab
theorem of_ins {L : List Ru} {r : Ru} (h : GoodU L) (e : addEG L r = 0) :
    ofL (insU r L) r.src = (ofL L r.src).take (atU (ofL L r.src) r.dst) ++ r :: (ofL L r.src).drop (atU (ofL L r.src) r.dst) := by
  obtain ⟨hr, h1, h2, h3⟩ := addE_ok.1 e
  rw [into_none] at h1
  have hd := of_dst h r.src
  obtain ⟨s1, s2⟩ := atU_split (d := r.dst) hd
  generalize hk : atU (ofL L r.src) r.dst = k at *
  have hsplit : ofL L r.src = (ofL L r.src).take k ++ (ofL L r.src).drop k := (List.take_append_drop _ _).symm
  have hlt : ∀ x ∈ (ofL L r.src).drop k, r.dst < x.dst := fun x hx => by
    have hm := mem_ofL.1 (List.mem_of_mem_drop hx)
    rcases lt_3 r.dst x.dst with q | q | q
    · exact q
    · exact absurd q.symm (h1 x hm.1)
    · exact absurd q (s2 x hx)
  refine pw_ext (R := fun a b => a.dst < b.dst) (fun _ => lt_no _) (fun _ _ => lt_as) (of_dst (h.ins e) r.src) ?_ (fun p => ?_)
  · rw [hsplit, List.pairwise_append] at hd
    rw [List.pairwise_append, List.pairwise_cons]
    refine ⟨hd.1, ⟨hlt, hd.2.1⟩, fun a ha b hb => ?_⟩
    rcases List.mem_cons.1 hb with q | q
    · subst q; exact s1 a ha
    · exact hd.2.2 a ha b q
  · rw [mem_ofL, mem_insU]
    have hp : p ∈ ofL L r.src ↔ p ∈ (ofL L r.src).take k ∨ p ∈ (ofL L r.src).drop k := by
      conv => lhs; rw [hsplit]
      exact List.mem_append
    rw [List.mem_append, List.mem_cons, or_left_comm, ← hp, mem_ofL]
    constructor
    · rintro ⟨q | q, hs⟩
      · exact .inl q
      · exact .inr ⟨q, hs⟩
    · rintro (q | q)
      · exact ⟨.inl q, by rw [q]⟩
      · exact ⟨.inr q.1, q.2⟩
theorem mem_outU {L : List Ru} {r p : Ru} : p ∈ outU L r ↔ p ∈ L ∧ p ≠ r := by unfold outU; rw [List.mem_filter]; simp
theorem of_filter (L : List Ru) (p : Ru → Bool) (s : Tx) : ofL (L.filter p) s = (ofL L s).filter p := by
  unfold ofL; rw [List.filter_filter, List.filter_filter]
  exact List.filter_congr fun x _ => Bool.and_comm ..
theorem of_out (L : List Ru) (r : Ru) (s : Tx) : ofL (outU L r) s = outU (ofL L s) r := of_filter L _ s
theorem of_out_ne {L : List Ru} {r : Ru} {s : Tx} (h : s ≠ r.src) : ofL (outU L r) s = ofL L s := by
  rw [of_out]
  refine List.filter_eq_self.2 fun x hx => ?_
  refine decide_eq_true fun e => h ?_
  rw [← (mem_ofL.1 hx).2, e]
theorem into_out {L : List Ru} {r : Ru} (h : GoodU L) (hr : r ∈ L) (d : Tx) : intoL (outU L r) d = if d = r.dst then none else intoL L d := by
  by_cases hd : d = r.dst
  · rw [if_pos hd, into_none]
    intro x hx e
    obtain ⟨a, b⟩ := mem_outU.1 hx
    exact b (h.one x a r hr (e.trans hd))
  · rw [if_neg hd]
    refine (h.filter _).into_ext h (fun x hx => ?_)
    show x ∈ outU L r ↔ _
    rw [mem_outU]
    exact ⟨fun k => k.1, fun k => ⟨k, fun q => hd (by rw [← hx, q])⟩⟩
def offU (L : List Ru) (s : Tx) : List Ru := L.filter fun r => decide (r.src ≠ s)
theorem mem_offU {L : List Ru} {s : Tx} {p : Ru} : p ∈ offU L s ↔ p ∈ L ∧ p.src ≠ s := by unfold offU; rw [List.mem_filter]; simp
theorem of_off (L : List Ru) (s k : Tx) : ofL (offU L s) k = if k = s then [] else ofL L k := by
  by_cases h : k = s
  · rw [if_pos h, ofL_nil]
    intro r hr e
    exact (mem_offU.1 hr).2 (e.trans h)
  · rw [if_neg h]
    unfold offU
    rw [of_filter]
    refine List.filter_eq_self.2 fun x hx => ?_
    have := (mem_ofL.1 hx).2
    exact decide_eq_true (by rw [this]; exact h)
theorem filter_len {α : Type} (p : α → Bool) : ∀ l : List α, l.length = (l.filter p).length + (l.filter fun x => !p x).length
  | [] => rfl
  | x :: l => by
    have ih := filter_len p l
    cases h : p x <;> simp [h] <;> omega
theorem off_len (L : List Ru) (s : Tx) : L.length = (ofL L s).length + (offU L s).length := by
  have := filter_len (fun r : Ru => decide (r.src = s)) L
  rw [this]
  unfold ofL offU
  congr 2
  exact List.filter_congr fun x _ => by simp
theorem out_len {L : List Ru} (h : L.Pairwise ahU) {r : Ru} (hr : r ∈ L) : L.length = (outU L r).length + 1 := by
  have hn : L.Nodup := by
    unfold List.Nodup
    exact List.Pairwise.imp (fun {a b} k (e : a = b) => ahU_no b (by rw [e] at k; exact k)) h
  have := filter_len (fun x : Ru => decide (x ≠ r)) L
  rw [this]
  unfold outU
  congr 1
  have e : (L.filter fun x => !decide (x ≠ r)) = [r] := by
    have e1 : (L.filter fun x => !decide (x ≠ r)) = L.filter fun x => x == r := List.filter_congr fun x _ => by simp; rfl
    rw [e1, List.filter_beq, List.Nodup.count hn, if_pos hr]; rfl
  rw [e]; rfl
theorem gone_off (L : List Ru) (k : Tx) : goneL L k = (offU L k).filter fun r => decide (r.dst ≠ k) := by
  unfold goneL offU; rw [List.filter_filter]
  exact List.filter_congr fun x _ => by simp [Bool.and_comm, Bool.decide_and]
theorem gone_out {L : List Ru} (h : GoodU L) {k : Tx} {r : Ru} (e : intoL (offU L k) k = some r) : goneL L k = outU (offU L k) r := by
  obtain ⟨hr, hd⟩ := into_mem e
  rw [gone_off]
  unfold outU
  refine List.filter_congr fun x hx => ?_
  rw [decide_eq_decide]
  constructor
  · intro a b; rw [b] at a; exact a hd
  · intro a b
    exact a ((h.filter _).one x hx r hr (b.trans hd.symm))
theorem gone_none {L : List Ru} {k : Tx} (e : intoL (offU L k) k = none) : goneL L k = offU L k := by
  rw [gone_off]
  exact List.filter_eq_self.2 fun x hx => decide_eq_true (into_none.1 e x hx)
def goneN (L : List Ru) (k : Tx) : Nat := L.length - (goneL L k).length
theorem mem_goneL {L : List Ru} {k : Tx} {r : Ru} : r ∈ goneL L k ↔ r ∈ L ∧ r.src ≠ k ∧ r.dst ≠ k := by unfold goneL; rw [List.mem_filter]; simp
def dropE (L : List Ru) (s d : Tx) : Int := match intoL L d with | some r => if r.src = s then 0 else 5 | none => 5
def dropR (L : List Ru) (s d : Tx) : Ru := match intoL L d with | some r => if r.src = s then r else zeroU | none => zeroU
def dropU (L : List Ru) (s d : Tx) : List Ru := match intoL L d with | some r => if r.src = s then outU L r else L | none => L
theorem drop_hit {L : List Ru} {s d : Tx} {r : Ru} (e : intoL L d = some r) (h : r.src = s) : dropE L s d = 0 ∧ dropR L s d = r ∧ dropU L s d = outU L r := by
  unfold dropE dropR dropU; rw [e]; simp [h]
theorem drop_other {L : List Ru} {s d : Tx} {r : Ru} (e : intoL L d = some r) (h : r.src ≠ s) : dropE L s d = 5 ∧ dropR L s d = zeroU ∧ dropU L s d = L := by
  unfold dropE dropR dropU; rw [e]; simp [h]
theorem drop_miss {L : List Ru} {s d : Tx} (e : intoL L d = none) : dropE L s d = 5 ∧ dropR L s d = zeroU ∧ dropU L s d = L := by
  unfold dropE dropR dropU; rw [e]; simp
theorem all_of {L : List Ru} (h : GoodU L) {S : List Tx} (hs : SS S) (hS : ∀ s, ofL L s ≠ [] → s ∈ S) : S.flatMap (ofL L) = L := by
  refine ah_ext ?_ h.ord (fun p => ?_)
  · rw [List.pairwise_flatMap]
    refine ⟨fun s _ => List.Pairwise.filter _ h.ord, ?_⟩
    refine List.Pairwise.imp (fun {a b} hab x hx y hy => ?_) hs
    have e1 := (mem_ofL.1 hx).2
    have e2 := (mem_ofL.1 hy).2
    rw [ahU_ne (by rw [e1, e2]; exact lt_ne hab), e1, e2]; exact hab
  · rw [List.mem_flatMap]
    constructor
    · rintro ⟨s, _, hp⟩; exact (mem_ofL.1 hp).1
    · intro hp
      refine ⟨p.src, hS _ (fun e => ?_), mem_ofL.2 ⟨hp, rfl⟩⟩
      have : p ∈ ofL L p.src := mem_ofL.2 ⟨hp, rfl⟩
      rw [e] at this; cases this
end Go.Proofs.YtmifpfojhlmbkaaGreat
