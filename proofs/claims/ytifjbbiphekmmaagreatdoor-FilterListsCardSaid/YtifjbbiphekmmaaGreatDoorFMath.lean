/-
  Terms, plain: what a word is, what is right, a term's text, what a text says, what matches, what is found.
-/
import Derived.Test.YtifjbbiphekmmaaGreatDoorIMath
namespace Go.Proofs.YtifjbbiphekmmaaGreatDoor
set_option linter.unusedVariables false
set_option linter.unusedSimpArgs false

/-- A term: its name, whether it is a Not, its values. -/
abbrev Trm := Tx × Bool × List Tx
def specL : List UInt8 := [61, 33, 40, 41, 44]
def wordB (s : Tx) : Prop := keyB s ∧ ∀ b ∈ s, b ∉ specL
instance (s : Tx) : Decidable (wordB s) := by unfold wordB; exact inferInstance
def rightT (t : Trm) : Prop := t.2.2.length ≤ 16 ∧ wordB t.1 ∧ ∀ v ∈ t.2.2, wordB v
instance (t : Trm) : Decidable (rightT t) := inferInstanceAs (Decidable (_ ∧ _ ∧ _))
def signT (b : Bool) : Tx := if b then [33, 61] else [61]
/-- Texts with commas between. -/
def joinC : List Tx → Tx
  | [] => []
  | [v] => v
  | v :: u :: l => v ++ 44 :: joinC (u :: l)
def listT (l : List Tx) : Tx := if 1 < l.length then 40 :: (joinC l ++ [41]) else joinC l
def textT (t : Trm) : Tx := t.1 ++ (signT t.2.1 ++ listT t.2.2)
def showT (t : Trm) : Tx := if rightT t then textT t else []

/-- Cut at the first byte c: what stands ahead of it and behind it. -/
def cutAt (c : UInt8) : Tx → Option (Tx × Tx)
  | [] => none
  | x :: l => if x = c then some ([], l) else (cutAt c l).map fun p => (x :: p.1, p.2)
/-- Cut at all commas. -/
def splitC : Tx → List Tx
  | [] => [[]]
  | x :: l => if x = 44 then [] :: splitC l else
    match splitC l with
    | [] => [[x]]
    | p :: q => (x :: p) :: q
/-- The values of what stands behind the sign. -/
def valsT (s : Tx) : List Tx := if s = [] then [] else if s.head? = some 40 ∧ s.getLast? = some 41 ∧ 2 ≤ s.length then splitC (s.drop 1).dropLast else [s]
/-- A name as it stands ahead of the sign's '=': the name, and whether a '!' ends it. -/
def nameT (s : Tx) : Tx × Bool := if s.getLast? = some 33 then (s.dropLast, true) else (s, false)
def rawT (s r : Tx) : Trm := ((nameT s).1, (nameT s).2, valsT r)
def parseT (s : Tx) : Option Trm :=
  match cutAt 61 s with
  | none => none
  | some (a, r) => if rightT (rawT a r) then some (rawT a r) else none

theorem word_not {s : Tx} (h : wordB s) {c : UInt8} (hc : c ∈ specL) : c ∉ s := fun hm => h.2 c hm hc
theorem word_len {s : Tx} (h : wordB s) : 1 ≤ s.length ∧ s.length ≤ 64 := h.1
theorem cut_app {c : UInt8} : ∀ {a : Tx}, c ∉ a → ∀ (r : Tx), cutAt c (a ++ c :: r) = some (a, r)
  | [], _, r => by simp [cutAt]
  | x :: a, h, r => by
    have hx : x ≠ c := fun e => h (by rw [e]; exact List.mem_cons_self)
    have ha : c ∉ a := fun e => h (List.mem_cons_of_mem _ e)
    show (if x = c then _ else _) = _
    rw [if_neg hx, show cutAt c (a.append (c :: r)) = some (a, r) from cut_app ha r]; rfl
theorem cut_none {c : UInt8} : ∀ {s : Tx}, cutAt c s = none ↔ c ∉ s
  | [] => by simp [cutAt]
  | x :: l => by
    unfold cutAt
    by_cases hx : x = c
    · rw [if_pos hx]; simp [hx]
    · rw [if_neg hx, Option.map_eq_none_iff, cut_none, List.mem_cons]
      exact ⟨fun h e => e.elim (fun e => hx e.symm) h, fun h e => h (.inr e)⟩
theorem cut_some {c : UInt8} : ∀ {s a r : Tx}, cutAt c s = some (a, r) → s = a ++ c :: r ∧ c ∉ a
  | [], a, r, h => by simp [cutAt] at h
  | x :: l, a, r, h => by
    unfold cutAt at h
    by_cases hx : x = c
    · rw [if_pos hx] at h; simp at h; obtain ⟨rfl, rfl⟩ := h; simp [hx]
    · rw [if_neg hx] at h
      obtain ⟨⟨p, q⟩, hp, e⟩ := Option.map_eq_some_iff.1 h
      simp at e
      obtain ⟨rfl, rfl⟩ := e
      obtain ⟨e1, e2⟩ := cut_some hp
      rw [e1]
      exact ⟨rfl, fun hm => (List.mem_cons.1 hm).elim (fun e => hx e.symm) e2⟩
theorem split_ne (s : Tx) : splitC s ≠ [] := by
  cases s with
  | nil => simp [splitC]
  | cons x l =>
    unfold splitC
    split
    · simp
    · split <;> simp
theorem split_one : ∀ {v : Tx}, (44 : UInt8) ∉ v → splitC v = [v]
  | [], _ => rfl
  | x :: v, hv => by
    have hx : x ≠ 44 := fun e => hv (by rw [e]; exact List.mem_cons_self)
    unfold splitC
    rw [if_neg hx, split_one (fun e => hv (List.mem_cons_of_mem _ e))]
theorem split_more : ∀ {v r : Tx}, (44 : UInt8) ∉ v → splitC (v ++ 44 :: r) = v :: splitC r
  | [], r, _ => by simp [splitC]
  | x :: v, r, hv => by
    have hx : x ≠ 44 := fun e => hv (by rw [e]; exact List.mem_cons_self)
    show splitC (x :: (v ++ 44 :: r)) = _
    rw [splitC, if_neg hx, split_more (fun e => hv (List.mem_cons_of_mem _ e))]
theorem split_join : ∀ {l : List Tx}, l ≠ [] → (∀ v ∈ l, (44 : UInt8) ∉ v) → splitC (joinC l) = l
  | [v], _, h => by
    have hv := h v (by simp)
    show splitC v = [v]
    exact split_one hv
  | v :: u :: l, _, h => by
    have hv := h v (by simp)
    have ih := split_join (l := u :: l) (by simp) (fun z hz => h z (List.mem_cons_of_mem _ hz))
    show splitC (v ++ 44 :: joinC (u :: l)) = v :: u :: l
    rw [split_more hv, ih]
theorem join_split (s : Tx) : joinC (splitC s) = s := by
  induction s with
  | nil => rfl
  | cons x l ih =>
    unfold splitC
    by_cases hx : x = 44
    · rw [if_pos hx]
      cases hq : splitC l with
      | nil => exact absurd hq (split_ne l)
      | cons p q => rw [hq] at ih; show [] ++ 44 :: joinC (p :: q) = _; rw [ih, hx]; rfl
    · rw [if_neg hx]
      cases hq : splitC l with
      | nil => exact absurd hq (split_ne l)
      | cons p q =>
        rw [hq] at ih
        show joinC ((x :: p) :: q) = _
        cases q with
        | nil => show x :: p = x :: l; rw [← ih]; rfl
        | cons u q => show (x :: p) ++ 44 :: joinC (u :: q) = x :: l; rw [← ih]; rfl

theorem last_app {α : Type} (l : List α) (x : α) : (l ++ [x]).getLast? = some x := by simp
/-- A right term's values are read as they were written. -/
theorem vals_list {l : List Tx} (h : ∀ v ∈ l, wordB v) : valsT (listT l) = l := by
  match l, h with
  | [], _ => rfl
  | [v], h =>
    have hv := h v (by simp)
    have h1 := (word_len hv).1
    show valsT v = [v]
    unfold valsT
    rw [if_neg (by intro e; rw [e] at h1; simp at h1), if_neg]
    rintro ⟨e, _, _⟩
    exact word_not hv (c := 40) (by decide) (List.mem_of_head? e)
  | v :: u :: l, h =>
    have e : listT (v :: u :: l) = 40 :: (joinC (v :: u :: l) ++ [41]) := by unfold listT; rw [if_pos (by simp)]
    rw [e]
    unfold valsT
    rw [if_neg (by simp), if_pos ⟨rfl, by rw [← List.cons_append]; exact last_app _ _, by simp⟩]
    have e2 : ((40 :: (joinC (v :: u :: l) ++ [41])).drop 1).dropLast = joinC (v :: u :: l) := by simp
    rw [e2]
    exact split_join (by simp) (fun z hz => word_not (h z hz) (by decide))
theorem name_sign {n : Tx} (h : wordB n) (b : Bool) (r : Tx) : ∃ a, n ++ (signT b ++ r) = a ++ 61 :: r ∧ (61 : UInt8) ∉ a ∧ nameT a = (n, b) := by
  have hn := word_not h (c := 61) (by decide)
  cases b with
  | false =>
    refine ⟨n, by simp [signT], hn, ?_⟩
    unfold nameT
    rw [if_neg]
    intro e
    exact word_not h (c := 33) (by decide) (List.mem_of_getLast? e)
  | true =>
    refine ⟨n ++ [33], by simp [signT], by simp [hn], ?_⟩
    unfold nameT
    rw [if_pos (last_app _ _)]
    simp
theorem parse_text {t : Trm} (h : rightT t) : parseT (textT t) = some t := by
  obtain ⟨n, b, l⟩ := t
  obtain ⟨a, e, h1, h2⟩ := name_sign h.2.1 b (listT l)
  have hv := vals_list h.2.2
  unfold parseT
  rw [show textT (n, b, l) = a ++ 61 :: listT l from e, cut_app h1]
  have hr : rawT a (listT l) = (n, b, l) := by unfold rawT; rw [h2, hv]
  show (if rightT (rawT a (listT l)) then some (rawT a (listT l)) else none) = _
  rw [hr]
  exact if_pos h
theorem parse_nil : parseT [] = none := rfl
theorem parse_show (t : Trm) : parseT (showT t) = if rightT t then some t else none := by
  unfold showT
  by_cases h : rightT t
  · rw [if_pos h, if_pos h]; exact parse_text h
  · rw [if_neg h, if_neg h]; rfl
theorem parse_right {s : Tx} {t : Trm} (h : parseT s = some t) : rightT t := by
  unfold parseT at h
  cases hc : cutAt 61 s with
  | none => rw [hc] at h; simp at h
  | some p =>
    rw [hc] at h
    simp only at h
    by_cases hr : rightT (rawT p.1 p.2)
    · rw [if_pos hr] at h; simp at h; rw [← h]; exact hr
    · rw [if_neg hr] at h; simp at h
theorem show_right {t : Trm} (h : rightT t) : showT t = textT t := if_pos h
theorem name_back {a : Tx} : a ++ [(61 : UInt8)] = (nameT a).1 ++ signT (nameT a).2 := by
  unfold nameT
  by_cases h : a.getLast? = some 33
  · rw [if_pos h]
    obtain ⟨d, rfl⟩ : ∃ d, a = d ++ [33] := by
      rw [List.getLast?_eq_some_iff] at h; exact h
    simp [signT]
  · rw [if_neg h]; rfl
/-- A text that is read is its term's text, but for a list of one. -/
theorem show_parse {s : Tx} {t : Trm} (h : parseT s = some t) : showT t = s ∨ (t.2.2.length = 1 ∧ s.length = (showT t).length + 2) := by
  have hr := parse_right h
  rw [show_right hr]
  unfold parseT at h
  cases hc : cutAt 61 s with
  | none => rw [hc] at h; simp at h
  | some p =>
    obtain ⟨a, r⟩ := p
    rw [hc] at h
    simp only at h
    by_cases hr2 : rightT (rawT a r)
    · rw [if_pos hr2] at h
      simp at h
      obtain ⟨e1, e2⟩ := cut_some hc
      have hs : s = ((nameT a).1 ++ signT (nameT a).2) ++ r := by rw [e1, ← name_back]; simp
      have ht : textT t = ((nameT a).1 ++ signT (nameT a).2) ++ listT (valsT r) := by rw [← h]; unfold textT rawT; simp
      rw [ht, hs]
      have hval : t.2.2 = valsT r := by rw [← h]; rfl
      rw [hval]
      clear ht hs h hval hr hr2
      unfold valsT
      by_cases h0 : r = []
      · rw [if_pos h0]; left; rw [h0]; rfl
      · rw [if_neg h0]
        by_cases h1 : r.head? = some 40 ∧ r.getLast? = some 41 ∧ 2 ≤ r.length
        · rw [if_pos h1]
          obtain ⟨k1, k2, k3⟩ := h1
          obtain ⟨z, rfl⟩ : ∃ z, r = 40 :: (z ++ [41]) := by
            obtain ⟨d, rfl⟩ := List.getLast?_eq_some_iff.1 k2
            cases d with
            | nil => simp at k3
            | cons y d => simp at k1; exact ⟨d, by rw [k1]; rfl⟩
          have e3 : ((40 :: (z ++ [(41 : UInt8)])).drop 1).dropLast = z := by simp
          rw [e3]
          have hj := join_split z
          have hne := split_ne z
          unfold listT
          rw [hj]
          by_cases h2 : 1 < (splitC z).length
          · rw [if_pos h2]; left; rfl
          · rw [if_neg h2]; right
            refine ⟨?_, by simp; omega⟩
            have : (splitC z).length ≠ 0 := fun e => hne (List.length_eq_zero_iff.1 e)
            omega
        · rw [if_neg h1]; left; rfl
    · rw [if_neg hr2] at h; simp at h

/-- Do labels match? -/
def matchT (t : Trm) (l : List Lb) : Bool :=
  match look l t.1 with
  | none => t.2.1 == !t.2.2.isEmpty
  | some v => if t.2.2.isEmpty then t.2.1 else decide (v ∈ t.2.2) != t.2.1
def allT (ts : List Trm) (l : List Lb) : Bool := ts.all fun t => matchT t l
def findT (E : List Ent) (ts : List Trm) : List Tx := keysL (E.filter fun p => allT ts p.2)
theorem find_ssT {E : List Ent} (h : SS (keysL E)) (ts : List Trm) : SS (findT E ts) := ss_filterE h _
theorem mem_findT {E : List Ent} {ts : List Trm} {k : Tx} : k ∈ findT E ts ↔ ∃ l, (k, l) ∈ E ∧ allT ts l = true := by
  unfold findT keysL
  constructor
  · intro h
    obtain ⟨p, hp, rfl⟩ := List.mem_map.1 h
    obtain ⟨h1, h2⟩ := List.mem_filter.1 hp
    exact ⟨p.2, h1, h2⟩
  · rintro ⟨l, h1, h2⟩
    exact List.mem_map.2 ⟨(k, l), List.mem_filter.2 ⟨h1, h2⟩, rfl⟩
theorem find_nilT (E : List Ent) : findT E [] = keysL E := by
  unfold findT; rw [List.filter_eq_self.2 (by intros; rfl)]
def noT (t : Trm) : Trm := (t.1, !t.2.1, t.2.2)
theorem match_no (t : Trm) (l : List Lb) : matchT (noT t) l = !matchT t l := by
  unfold matchT noT
  cases look l t.1 with
  | none => cases t.2.1 <;> cases t.2.2.isEmpty <;> rfl
  | some v =>
    obtain ⟨n, b, vs⟩ := t
    show (if vs.isEmpty = true then (!b) else decide (v ∈ vs) != !b) = !(if vs.isEmpty = true then b else decide (v ∈ vs) != b)
    generalize decide (v ∈ vs) = d
    cases vs.isEmpty <;> cases b <;> cases d <;> rfl
theorem find_one (E : List Ent) (t : Trm) : findT E [t] = keysL (E.filter fun p => matchT t p.2) := by
  unfold findT allT; simp
theorem nots_len (E : List Ent) (t : Trm) : (findT E [t]).length + (findT E [noT t]).length = (keysL E).length := by
  rw [find_one, find_one]
  unfold keysL
  rw [List.length_map, List.length_map, List.length_map]
  have e : (fun p : Ent => matchT (noT t) p.2) = fun p => !matchT t p.2 := funext fun p => match_no t p.2
  rw [e]
  clear e
  induction E with
  | nil => rfl
  | cons p E ih =>
    rw [List.filter_cons, List.filter_cons]
    cases matchT t p.2 <;> simp <;> omega
theorem nots_or {E : List Ent} (h : SS (keysL E)) (t : Trm) : orL (findT E [t]) (findT E [noT t]) = keysL E := by
  refine ss_ext (take_ss ..) h (fun k => ?_)
  rw [mem_or, mem_findT, mem_findT]
  unfold allT
  simp only [List.all_cons, List.all_nil, Bool.and_true, match_no]
  constructor
  · rintro (⟨l, h1, _⟩ | ⟨l, h1, _⟩) <;> exact List.mem_map.2 ⟨(k, l), h1, rfl⟩
  · intro hk
    obtain ⟨p, hp, rfl⟩ := List.mem_map.1 hk
    cases hm : matchT t p.2
    · exact .inr ⟨p.2, hp, by simp [hm]⟩
    · exact .inl ⟨p.2, hp, by simp [hm]⟩
theorem find_swap (E : List Ent) (a b : Trm) : findT E [a, b] = findT E [b, a] := by
  unfold findT allT
  simp only [List.all_cons, List.all_nil, Bool.and_true]
  congr 1
  congr 1
  funext p
  exact Bool.and_comm _ _
theorem find_more {E : List Ent} (h : SS (keysL E)) (a b : Trm) : orL (findT E [a]) (findT E [a, b]) = findT E [a] := by
  refine ss_ext (take_ss ..) (find_ssT h _) (fun k => ?_)
  rw [mem_or, mem_findT, mem_findT]
  unfold allT
  simp only [List.all_cons, List.all_nil, Bool.and_true, Bool.and_eq_true]
  constructor
  · rintro (h1 | ⟨l, h1, h2, _⟩)
    · exact h1
    · exact ⟨l, h1, h2⟩
  · exact .inl
/-- The keys that have one of the values. -/
def orAll (E : List Ent) (n : Tx) : List Tx → List Tx → List Tx
  | o, [] => o
  | o, v :: l => orAll E n (orL o (findT E [(n, false, [v])])) l
theorem match_pick (n : Tx) (vs : List Tx) (hv : vs ≠ []) (l : List Lb) : matchT (n, false, vs) l = true ↔ ∃ v, look l n = some v ∧ v ∈ vs := by
  unfold matchT
  have he : vs.isEmpty = false := by cases vs with | nil => exact absurd rfl hv | cons a b => rfl
  simp only [he]
  cases look l n with
  | none => simp
  | some v => simp
theorem mem_pick {E : List Ent} {n : Tx} {vs : List Tx} (hv : vs ≠ []) {k : Tx} : k ∈ findT E [(n, false, vs)] ↔ ∃ v ∈ vs, k ∈ findT E [(n, false, [v])] := by
  rw [mem_findT]
  simp only [mem_findT, allT, List.all_cons, List.all_nil, Bool.and_true]
  constructor
  · rintro ⟨l, h1, h2⟩
    obtain ⟨v, h3, h4⟩ := (match_pick n vs hv l).1 h2
    exact ⟨v, h4, l, h1, (match_pick n [v] (by simp) l).2 ⟨v, h3, by simp⟩⟩
  · rintro ⟨v, hm, l, h1, h2⟩
    obtain ⟨u, h3, h4⟩ := (match_pick n [v] (by simp) l).1 h2
    refine ⟨l, h1, (match_pick n vs hv l).2 ⟨u, h3, ?_⟩⟩
    simp at h4
    rw [h4]; exact hm
theorem orAll_ss (E : List Ent) (n : Tx) : ∀ (l o : List Tx), SS o → SS (orAll E n o l)
  | [], o, h => h
  | v :: l, o, h => orAll_ss E n l _ (take_ss ..)
theorem mem_orAll (E : List Ent) (n : Tx) : ∀ (l o : List Tx) {k : Tx}, k ∈ orAll E n o l ↔ k ∈ o ∨ ∃ v ∈ l, k ∈ findT E [(n, false, [v])]
  | [], o, k => by simp [orAll]
  | v :: l, o, k => by
    rw [orAll, mem_orAll E n l, mem_or]
    simp only [List.mem_cons, exists_eq_or_imp]
    exact or_assoc
theorem lists_find {E : List Ent} (h : SS (keysL E)) (n : Tx) {vs : List Tx} (hv : vs ≠ []) : findT E [(n, false, vs)] = orAll E n [] vs :=
  ss_ext (find_ssT h _) (orAll_ss E n vs [] ss_nil) (fun k => by rw [mem_pick hv, mem_orAll]; simp)
theorem orAll_snoc (E : List Ent) (n : Tx) (v : Tx) : ∀ (l o : List Tx), orAll E n o (l ++ [v]) = orL (orAll E n o l) (findT E [(n, false, [v])])
  | [], o => rfl
  | u :: l, o => by rw [List.cons_append, orAll, orAll, orAll_snoc E n v l]
theorem lists_some {E : List Ent} (h : SS (keysL E)) (n : Tx) (vs : List Tx) : orL (findT E [(n, true, [])]) (orAll E n [] vs) = findT E [(n, true, [])] := by
  refine ss_ext (take_ss ..) (find_ssT h _) (fun k => ?_)
  rw [mem_or, mem_orAll]
  constructor
  · rintro (h1 | h1 | ⟨v, _, h1⟩)
    · exact h1
    · simp at h1
    · rw [mem_findT] at h1 ⊢
      obtain ⟨l, h2, h3⟩ := h1
      refine ⟨l, h2, ?_⟩
      simp only [allT, List.all_cons, List.all_nil, Bool.and_true] at h3 ⊢
      obtain ⟨u, h4, _⟩ := (match_pick n [v] (by simp) l).1 h3
      unfold matchT
      simp [h4]
  · exact .inl
/-- What is near: keys among which all stand that match. -/
theorem near_find {E : List Ent} (h : SS (keysL E)) (ts : List Trm) {K : List Tx} (hK : SS K) (h1 : ∀ k ∈ findT E ts, k ∈ K) :
    K.filter (fun k => (k ∈ keysL E) && allT ts ((look E k).getD [])) = findT E ts := by
  refine ss_ext (ss_filter hK _) (find_ssT h _) (fun k => ?_)
  rw [List.mem_filter]
  constructor
  · rintro ⟨_, h3⟩
    rw [Bool.and_eq_true] at h3
    obtain ⟨h3, h4⟩ := h3
    obtain ⟨p, hp, rfl⟩ := List.mem_map.1 (of_decide_eq_true h3)
    have hl := mem_look (ssG_nodup h) (k := p.1) (v := p.2) hp
    rw [hl] at h4
    exact mem_findT.2 ⟨p.2, hp, h4⟩
  · intro hk
    refine ⟨h1 k hk, ?_⟩
    obtain ⟨l, h2, h3⟩ := mem_findT.1 hk
    have hl := mem_look (ssG_nodup h) (k := k) (v := l) h2
    rw [hl, Bool.and_eq_true]
    exact ⟨decide_eq_true (List.mem_map.2 ⟨(k, l), h2, rfl⟩), h3⟩
theorem look_of_mem {l : List Lb} (h : (keysL l).Nodup) {n v : Tx} : look l n = some v ↔ (n, v) ∈ l := look_iff h
/-- The keys that one of a term's values has, whole. -/
theorem having_find {E : List Ent} (hg : GoodE E) (n : Tx) {vs : List Tx} (hv : vs ≠ []) {k : Tx} : k ∈ findT E [(n, false, vs)] ↔ ∃ v ∈ vs, k ∈ findE E n v := by
  rw [mem_pick hv]
  constructor
  · rintro ⟨v, h1, h2⟩
    refine ⟨v, h1, mem_find.2 ?_⟩
    obtain ⟨l, h3, h4⟩ := mem_findT.1 h2
    simp only [allT, List.all_cons, List.all_nil, Bool.and_true] at h4
    obtain ⟨u, h5, h6⟩ := (match_pick n [v] (by simp) l).1 h4
    simp at h6
    rw [h6] at h5
    exact ⟨l, h3, look_mem h5⟩
  · rintro ⟨v, h1, h2⟩
    obtain ⟨l, h3, h4⟩ := mem_find.1 h2
    refine ⟨v, h1, mem_findT.2 ⟨l, h3, ?_⟩⟩
    simp only [allT, List.all_cons, List.all_nil, Bool.and_true]
    exact (match_pick n [v] (by simp) l).2 ⟨v, mem_look ((hg.right (k, l) h3).2.2) h4, by simp⟩

end Go.Proofs.YtifjbbiphekmmaaGreatDoor
