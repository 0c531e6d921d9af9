/-
  Plain facts of layer 8: sorted lists of texts: what is made of any texts, what is in both of two lists, in one, in one alone.
-/
import Derived.Test.YtlogkhifgkkjeaaBase
namespace Go.Proofs.Ytlogkhifgkkjeaa
set_option linter.unusedVariables false
set_option linter.unusedSimpArgs false

/-- A text's bytes. -/
abbrev Tx := List UInt8
theorem less_eq : ∀ (x y : Tx), Op.bytesLess x y = decide (x < y)
  | [], [] => by simp [Op.bytesLess]
  | _ :: _, [] => by simp [Op.bytesLess]
  | [], _ :: _ => by simp [Op.bytesLess]
  | a :: x, b :: y => by
    rw [Op.bytesLess, less_eq x y]
    simp only [List.cons_lt_cons_iff]
    by_cases h : a < b
    · simp [h]
    · by_cases h2 : a = b
      · simp [h2]
      · simp [h, h2]
theorem lt_no (x : Tx) : ¬ x < x := List.lt_irrefl x
theorem lt_tr {x y z : Tx} (h : x < y) (k : y < z) : x < z := List.lt_trans h k
theorem lt_3 (x y : Tx) : x < y ∨ x = y ∨ y < x := by
  by_cases h1 : x < y
  · exact .inl h1
  · by_cases h2 : y < x
    · exact .inr (.inr h2)
    · exact .inr (.inl (List.le_antisymm (List.not_lt.1 h2) (List.not_lt.1 h1)))
theorem lt_as {x y : Tx} (h : x < y) : ¬ y < x := fun k => lt_no x (lt_tr h k)
theorem lt_ne {x y : Tx} (h : x < y) : x ≠ y := fun e => lt_no x (by rw [← e] at h; exact h)

/-- Is a list sorted? -/
def SS (l : List Tx) : Prop := l.Pairwise (· < ·)
instance (l : List Tx) : Decidable (SS l) := inferInstanceAs (Decidable (l.Pairwise (· < ·)))
theorem ss_nil : SS [] := List.Pairwise.nil
theorem ss_cons {x : Tx} {l : List Tx} : SS (x :: l) ↔ (∀ y ∈ l, x < y) ∧ SS l := List.pairwise_cons
theorem ss_app {a b : List Tx} : SS (a ++ b) ↔ SS a ∧ SS b ∧ ∀ x ∈ a, ∀ y ∈ b, x < y := List.pairwise_append
theorem ss_filter {l : List Tx} (h : SS l) (p : Tx → Bool) : SS (l.filter p) := List.Pairwise.filter p h
theorem ss_nodup {l : List Tx} (h : SS l) : l.Nodup := List.Pairwise.imp (fun k => lt_ne k) h
/-- Sorted lists of the same texts are one. -/
theorem ss_ext : ∀ {a b : List Tx}, SS a → SS b → (∀ x, x ∈ a ↔ x ∈ b) → a = b
  | [], [], _, _, _ => rfl
  | [], y :: b, _, _, h => by have := (h y).2 (by simp); cases this
  | x :: a, [], _, _, h => by have := (h x).1 (by simp); cases this
  | x :: a, y :: b, ha, hb, h => by
    rw [ss_cons] at ha hb
    have e : x = y := by
      rcases lt_3 x y with k | k | k
      · have := (h x).1 (by simp)
        rcases List.mem_cons.1 this with e | e
        · exact e
        · exact absurd k (lt_as (hb.1 x e))
      · exact k
      · have := (h y).2 (by simp)
        rcases List.mem_cons.1 this with e | e
        · exact e.symm
        · exact absurd k (lt_as (ha.1 y e))
    subst e
    rw [ss_ext ha.2 hb.2 (fun z => ?_)]
    have hz := h z
    simp only [List.mem_cons] at hz
    constructor
    · intro m
      rcases hz.1 (.inr m) with e | e
      · subst e; exact absurd (ha.1 z m) (lt_no z)
      · exact e
    · intro m
      rcases hz.2 (.inr m) with e | e
      · subst e; exact absurd (hb.1 z m) (lt_no z)
      · exact e

/-- A list with a text. -/
def insS (x : Tx) : List Tx → List Tx
  | [] => [x]
  | y :: l => if y < x then y :: insS x l else if y = x then y :: l else x :: y :: l
theorem mem_insS {x z : Tx} {l : List Tx} : z ∈ insS x l ↔ z = x ∨ z ∈ l := by
  induction l with
  | nil => simp [insS]
  | cons y l ih =>
    unfold insS
    split
    · simp only [List.mem_cons, ih]; constructor
      · rintro (h | h | h) <;> simp [h]
      · rintro (h | h | h) <;> simp [h]
    · split
      · rename_i h; subst h; simp
      · simp
theorem insS_ss {x : Tx} {l : List Tx} (h : SS l) : SS (insS x l) := by
  induction l with
  | nil => exact ss_cons.2 ⟨by simp, ss_nil⟩
  | cons y l ih =>
    have h' := ss_cons.1 h
    unfold insS
    split
    · rename_i k
      refine ss_cons.2 ⟨fun z hz => ?_, ih h'.2⟩
      rcases mem_insS.1 hz with e | e
      · rw [e]; exact k
      · exact h'.1 z e
    · split
      · exact h
      · rename_i k1 k2
        have k : x < y := by
          rcases lt_3 x y with k | k | k
          · exact k
          · exact absurd k.symm k2
          · exact absurd k k1
        refine ss_cons.2 ⟨fun z hz => ?_, h⟩
        rcases List.mem_cons.1 hz with e | e
        · rw [e]; exact k
        · exact lt_tr k (h'.1 z e)
theorem insS_len (x : Tx) (l : List Tx) : (insS x l).length ≤ l.length + 1 := by
  induction l with
  | nil => simp [insS]
  | cons y l ih => unfold insS; split <;> (try split) <;> simp <;> omega
/-- Texts, each once, sorted. -/
def canon : List Tx → List Tx
  | [] => []
  | x :: l => insS x (canon l)
theorem mem_canon {z : Tx} {l : List Tx} : z ∈ canon l ↔ z ∈ l := by
  induction l with
  | nil => simp [canon]
  | cons y l ih => rw [canon, mem_insS, ih, List.mem_cons]
theorem canon_ss (l : List Tx) : SS (canon l) := by
  induction l with
  | nil => exact ss_nil
  | cons y l ih => exact insS_ss ih
theorem canon_len (l : List Tx) : (canon l).length ≤ l.length := by
  induction l with
  | nil => simp [canon]
  | cons y l ih => have := insS_len y (canon l); simp only [canon, List.length_cons]; omega
theorem canon_self {l : List Tx} (h : SS l) : canon l = l := ss_ext (canon_ss l) h (fun x => mem_canon)
theorem canon_eq {l s : List Tx} (h : SS s) (hm : ∀ x, x ∈ s ↔ x ∈ l) : s = canon l := ss_ext h (canon_ss l) (fun x => by rw [hm, mem_canon])
theorem canon_iff {l : List Tx} : SS l ↔ canon l = l := ⟨canon_self, fun h => by rw [← h]; exact canon_ss l⟩
theorem canon_same {a b : List Tx} (h : ∀ x, x ∈ a ↔ x ∈ b) : canon a = canon b := ss_ext (canon_ss a) (canon_ss b) (fun x => by rw [mem_canon, mem_canon, h])

/-- What is taken of two lists: what is in the first one alone, in the second one alone, in both. -/
def takeL (f s b : Bool) (x y : List Tx) : List Tx := canon ((x ++ y).filter fun z => if z ∈ x then (if z ∈ y then b else f) else s)
theorem mem_take {f s b : Bool} {x y : List Tx} {z : Tx} : z ∈ takeL f s b x y ↔ (z ∈ x ∧ z ∈ y ∧ b = true) ∨ (z ∈ x ∧ z ∉ y ∧ f = true) ∨ (z ∉ x ∧ z ∈ y ∧ s = true) := by
  unfold takeL
  rw [mem_canon, List.mem_filter, List.mem_append]
  by_cases h1 : z ∈ x <;> by_cases h2 : z ∈ y <;> simp [h1, h2]
theorem take_ss (f s b : Bool) (x y : List Tx) : SS (takeL f s b x y) := canon_ss _
theorem take_len (f s b : Bool) (x y : List Tx) : (takeL f s b x y).length ≤ x.length + y.length := by
  have h1 := canon_len ((x ++ y).filter fun z => if z ∈ x then (if z ∈ y then b else f) else s)
  have h2 := List.length_filter_le (fun z => if z ∈ x then (if z ∈ y then b else f) else s) (x ++ y)
  rw [List.length_append] at h2
  unfold takeL; omega
theorem take_canon (f s b : Bool) (x y : List Tx) : takeL f s b (canon x) (canon y) = takeL f s b x y :=
  ss_ext (take_ss ..) (take_ss ..) (fun z => by rw [mem_take, mem_take, mem_canon, mem_canon])
def andL : List Tx → List Tx → List Tx := takeL false false true
def orL : List Tx → List Tx → List Tx := takeL true true true
def lessL : List Tx → List Tx → List Tx := takeL true false false
theorem mem_and {x y : List Tx} {z : Tx} : z ∈ andL x y ↔ z ∈ x ∧ z ∈ y := by unfold andL; rw [mem_take]; simp
theorem mem_less {x y : List Tx} {z : Tx} : z ∈ lessL x y ↔ z ∈ x ∧ z ∉ y := by unfold lessL; rw [mem_take]; simp
theorem mem_or {x y : List Tx} {z : Tx} : z ∈ orL x y ↔ z ∈ x ∨ z ∈ y := by
  unfold orL; rw [mem_take]
  by_cases h1 : z ∈ x <;> by_cases h2 : z ∈ y <;> simp [h1, h2]

/-- The same, over two sorted lists at once. -/
def put1 (b : Bool) (l : List Tx) : List Tx := if b = true then l else []
def mrg (f s b : Bool) : List Tx → List Tx → List Tx
  | [], ys => put1 s ys
  | x :: xs, [] => put1 f (x :: xs)
  | x :: xs, y :: ys => if x < y then put1 f [x] ++ mrg f s b xs (y :: ys) else if y < x then put1 s [y] ++ mrg f s b (x :: xs) ys else put1 b [x] ++ mrg f s b xs ys
termination_by xs ys => xs.length + ys.length
theorem mem_put1 {b : Bool} {l : List Tx} {z : Tx} : z ∈ put1 b l ↔ b = true ∧ z ∈ l := by unfold put1; split <;> simp_all
theorem put1_ss {b : Bool} {l : List Tx} (h : SS l) : SS (put1 b l) := by unfold put1; split; exact h; exact ss_nil
theorem one_ss (x : Tx) : SS [x] := ss_cons.2 ⟨by simp, ss_nil⟩
theorem mrg_is (f s b : Bool) : ∀ (n : Nat) (xs ys : List Tx), xs.length + ys.length ≤ n → SS xs → SS ys →
    SS (mrg f s b xs ys) ∧ ∀ z, z ∈ mrg f s b xs ys ↔ (z ∈ xs ∧ z ∈ ys ∧ b = true) ∨ (z ∈ xs ∧ z ∉ ys ∧ f = true) ∨ (z ∉ xs ∧ z ∈ ys ∧ s = true) := by
  intro n
  induction n with
  | zero =>
    intro xs ys hn _ _
    have h1 : xs = [] := List.eq_nil_of_length_eq_zero (by omega)
    have h2 : ys = [] := List.eq_nil_of_length_eq_zero (by omega)
    subst h1; subst h2
    unfold mrg
    exact ⟨put1_ss ss_nil, fun z => by simp [put1]⟩
  | succ n ih =>
    intro xs ys hn hx hy
    match xs, ys with
    | [], ys =>
      unfold mrg
      exact ⟨put1_ss hy, fun z => by rw [mem_put1]; simp [and_comm]⟩
    | x :: xs, [] =>
      unfold mrg
      exact ⟨put1_ss hx, fun z => by rw [mem_put1]; simp [and_comm]⟩
    | x :: xs, y :: ys =>
      have hx' := ss_cons.1 hx
      have hy' := ss_cons.1 hy
      simp only [List.length_cons] at hn
      rw [mrg]
      by_cases h1 : x < y
      · rw [if_pos h1]
        obtain ⟨i1, i2⟩ := ih xs (y :: ys) (by simp; omega) hx'.2 hy
        have xny : x ∉ y :: ys := fun hm => by
          rcases List.mem_cons.1 hm with e | e
          · exact lt_ne h1 e
          · exact lt_as (lt_tr h1 (hy'.1 x e)) (lt_tr h1 (hy'.1 x e))
        refine ⟨ss_app.2 ⟨put1_ss (one_ss x), i1, fun u hu v hv => ?_⟩, fun z => ?_⟩
        · have e : u = x := by have := (mem_put1.1 hu).2; simpa using this
          subst e
          rcases (i2 v).1 hv with h | h | h
          · exact hx'.1 v h.1
          · exact hx'.1 v h.1
          · rcases List.mem_cons.1 h.2.1 with e | e
            · rw [e]; exact h1
            · exact lt_tr h1 (hy'.1 v e)
        · rw [List.mem_append, mem_put1, i2 z, List.mem_singleton]
          by_cases e : z = x
          · subst e
            have xnx : z ∉ xs := fun hm => lt_no z (hx'.1 z hm)
            simp [xny, xnx]
          · simp only [List.mem_cons (a := z) (b := x), e, false_or, and_false]
      · rw [if_neg h1]
        by_cases h2 : y < x
        · rw [if_pos h2]
          obtain ⟨i1, i2⟩ := ih (x :: xs) ys (by simp; omega) hx hy'.2
          have ynx : y ∉ x :: xs := fun hm => by
            rcases List.mem_cons.1 hm with e | e
            · exact lt_ne h2 e
            · exact lt_as (lt_tr h2 (hx'.1 y e)) (lt_tr h2 (hx'.1 y e))
          refine ⟨ss_app.2 ⟨put1_ss (one_ss y), i1, fun u hu v hv => ?_⟩, fun z => ?_⟩
          · have e : u = y := by have := (mem_put1.1 hu).2; simpa using this
            subst e
            rcases (i2 v).1 hv with h | h | h
            · exact hy'.1 v h.2.1
            · rcases List.mem_cons.1 h.1 with e | e
              · rw [e]; exact h2
              · exact lt_tr h2 (hx'.1 v e)
            · exact hy'.1 v h.2.1
          · rw [List.mem_append, mem_put1, i2 z, List.mem_singleton]
            by_cases e : z = y
            · subst e
              have yny : z ∉ ys := fun hm => lt_no z (hy'.1 z hm)
              simp [ynx, yny]
            · simp only [List.mem_cons (a := z) (b := y), e, false_or, and_false]
        · rw [if_neg h2]
          obtain rfl : x = y := by
            rcases lt_3 x y with k | k | k
            · exact absurd k h1
            · exact k
            · exact absurd k h2
          obtain ⟨i1, i2⟩ := ih xs ys (by omega) hx'.2 hy'.2
          have xnx : x ∉ xs := fun hm => lt_no x (hx'.1 x hm)
          have xny : x ∉ ys := fun hm => lt_no x (hy'.1 x hm)
          refine ⟨ss_app.2 ⟨put1_ss (one_ss x), i1, fun u hu v hv => ?_⟩, fun z => ?_⟩
          · have e : u = x := by have := (mem_put1.1 hu).2; simpa using this
            subst e
            rcases (i2 v).1 hv with h | h | h
            · exact hx'.1 v h.1
            · exact hx'.1 v h.1
            · exact hy'.1 v h.2.1
          · rw [List.mem_append, mem_put1, i2 z, List.mem_singleton]
            by_cases e : z = x
            · subst e
              simp [xnx, xny]
            · simp only [List.mem_cons, e, false_or, and_false]
theorem mrg_take (f s b : Bool) (x y : List Tx) : mrg f s b (canon x) (canon y) = takeL f s b x y := by
  obtain ⟨h1, h2⟩ := mrg_is f s b _ (canon x) (canon y) (Nat.le_refl _) (canon_ss x) (canon_ss y)
  exact ss_ext h1 (take_ss ..) (fun z => by rw [h2, mem_take, mem_canon, mem_canon])

/-- What the document's answers are made of. -/
theorem foldl_ins (l s : List Tx) (h : SS s) : l.foldl (fun o x => insS x o) s = canon (s ++ l) := by
  induction l generalizing s with
  | nil => simp [canon_self h]
  | cons x l ih =>
    rw [List.foldl_cons, ih _ (insS_ss h)]
    refine canon_same (fun z => ?_)
    rw [List.mem_append, List.mem_append, mem_insS, List.mem_cons]
    constructor
    · rintro ((h | h) | h)
      · exact .inr (.inl h)
      · exact .inl h
      · exact .inr (.inr h)
    · rintro (h | h | h)
      · exact .inl (.inr h)
      · exact .inl (.inl h)
      · exact .inr h
/-- What is in a list, and, or but not, in another one. -/
def pickL (x y : List Tx) (t : Bool) : List Tx := canon (x.filter fun z => decide (z ∈ y) == t)
theorem pick_and (x y : List Tx) : pickL x y true = andL x y := ss_ext (canon_ss _) (take_ss ..) (fun z => by rw [mem_and, pickL, mem_canon, List.mem_filter]; simp)
theorem pick_less (x y : List Tx) : pickL x y false = lessL x y := ss_ext (canon_ss _) (take_ss ..) (fun z => by rw [mem_less, pickL, mem_canon, List.mem_filter]; simp)
theorem canon_or (x y : List Tx) : canon (x ++ y) = orL x y := ss_ext (canon_ss _) (take_ss ..) (fun z => by rw [mem_or, mem_canon, List.mem_append])

/-- How many there are. -/
theorem split_len (l : List Tx) (p : Tx → Bool) : (l.filter p).length + (l.filter fun z => !p z).length = l.length := by
  induction l with
  | nil => rfl
  | cons x l ih =>
    cases h : p x
    · rw [List.filter_cons_of_neg (by simp [h]), List.filter_cons_of_pos (by simp [h]), List.length_cons, List.length_cons]; omega
    · rw [List.filter_cons_of_pos (by simp [h]), List.filter_cons_of_neg (by simp [h]), List.length_cons, List.length_cons]; omega
theorem less_len (x y : List Tx) : (lessL x y).length + (andL x y).length = (canon x).length := by
  have e1 : andL x y = (canon x).filter fun z => decide (z ∈ y) := ss_ext (take_ss ..) (ss_filter (canon_ss x) _) (fun z => by rw [mem_and, List.mem_filter, mem_canon]; simp)
  have e2 : lessL x y = (canon x).filter fun z => !decide (z ∈ y) := ss_ext (take_ss ..) (ss_filter (canon_ss x) _) (fun z => by rw [mem_less, List.mem_filter, mem_canon]; simp)
  have := split_len (canon x) (fun z => decide (z ∈ y))
  rw [e1, e2]; omega
theorem or_len (x y : List Tx) : (orL x y).length = (lessL x y).length + (canon y).length := by
  have e1 : canon y = (orL x y).filter fun z => decide (z ∈ y) := ss_ext (canon_ss y) (ss_filter (take_ss ..) _) (fun z => by
    rw [mem_canon, List.mem_filter, mem_or]
    by_cases h : z ∈ y <;> simp [h])
  have e2 : lessL x y = (orL x y).filter fun z => !decide (z ∈ y) := ss_ext (take_ss ..) (ss_filter (take_ss ..) _) (fun z => by
    rw [mem_less, List.mem_filter, mem_or]
    by_cases h : z ∈ y <;> simp [h])
  have := split_len (orL x y) (fun z => decide (z ∈ y))
  rw [e1, e2]; omega
theorem and_comm_ (x y : List Tx) : andL x y = andL y x := ss_ext (take_ss ..) (take_ss ..) (fun z => by rw [mem_and, mem_and]; exact and_comm)
theorem or_comm_ (x y : List Tx) : orL x y = orL y x := ss_ext (take_ss ..) (take_ss ..) (fun z => by rw [mem_or, mem_or]; exact or_comm)

end Go.Proofs.Ytlogkhifgkkjeaa
