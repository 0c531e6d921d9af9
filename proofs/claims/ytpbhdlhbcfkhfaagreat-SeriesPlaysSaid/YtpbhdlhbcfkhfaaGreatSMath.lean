/-
  Plain facts on samples in several chunks: bits of parts, small neighbours, what is laid in the place of some chunks.
-/
import Derived.Test.YtpbhdlhbcfkhfaaGreatCGets
namespace Go.Proofs.YtpbhdlhbcfkhfaaGreat
set_option linter.unusedVariables false
set_option linter.unusedSimpArgs false

/-! Bits of two lists one behind the other. -/
theorem at_right (x y : List (Int × Int)) (i : Nat) : (x ++ y).getD (x.length + i) (0, 0) = y.getD i (0, 0) := by
  rw [getD_app_right x y _ (by omega)]; congr 1; omega
theorem piece_right (x y : List (Int × Int)) (i : Nat) : piece (x ++ y) (x.length + (i + 2)) = piece y (i + 2) := by
  have a0 := at_right x y i
  have a1 := at_right x y (i + 1)
  have a2 := at_right x y (i + 2)
  have e : x.length + (i + 2) = (x.length + (i + 1)) + 1 := by omega
  have e1 : x.length + (i + 1) = (x.length + i) + 1 := by omega
  rw [e]
  simp only [piece, tNum, vNum]
  have h2 : tOf (x ++ y) (x.length + (i + 1) + 1) = tOf y (i + 1 + 1) := by unfold tOf; rw [← e, a2]
  have h1 : tOf (x ++ y) (x.length + (i + 1)) = tOf y (i + 1) := by unfold tOf; rw [a1]
  have h0 : tOf (x ++ y) (x.length + i) = tOf y i := by unfold tOf; rw [a0]
  have v2 : vOf (x ++ y) (x.length + (i + 1) + 1) = vOf y (i + 1 + 1) := by unfold vOf; rw [← e, a2]
  have v1 : vOf (x ++ y) (x.length + (i + 1)) = vOf y (i + 1) := by unfold vOf; rw [a1]
  have s2 : stepOf (x ++ y) (x.length + (i + 1) + 1) = stepOf y (i + 1 + 1) := by simp only [stepOf]; rw [h2, h1]
  have s1 : stepOf (x ++ y) (x.length + (i + 1)) = stepOf y (i + 1) := by rw [e1]; simp only [stepOf]; rw [← e1, h1, h0]
  rw [s2, s1, v2, v1]
theorem enc_left (x y : List (Int × Int)) : encTo (x ++ y) x.length = encTo x x.length := encTo_congr _ fun i hi => getD_app_left x y i hi
theorem enc_right (x y : List (Int × Int)) (j : Nat) : (encTo (x ++ y) (x.length + (j + 2))).length + (encTo y 2).length = (encTo (x ++ y) (x.length + 2)).length + (encTo y (j + 2)).length := by
  induction j with
  | zero => rfl
  | succ j ih =>
    have e : x.length + (j + 1 + 2) = (x.length + (j + 2)) + 1 := by omega
    have a : (encTo (x ++ y) (x.length + (j + 2) + 1)).length = (encTo (x ++ y) (x.length + (j + 2))).length + (piece y (j + 2)).length := by rw [encTo, List.length_append, piece_right]
    have b : (encTo y (j + 2 + 1)).length = (encTo y (j + 2)).length + (piece y (j + 2)).length := by rw [encTo, List.length_append]
    rw [e, show j + 1 + 2 = (j + 2) + 1 from by omega, a, b]
    omega
theorem enc_app (x y : List (Int × Int)) (j : Nat) : (encTo (x ++ y) (x.length + j)).length ≤ bitsZ x + (encTo y j).length + 144 ∧ bitsZ x + (encTo y j).length ≤ (encTo (x ++ y) (x.length + j)).length + 264 := by
  have h0 : (encTo (x ++ y) x.length).length = bitsZ x := by rw [enc_left]; rfl
  have p0 := piece_le (x ++ y) x.length
  have p1 := piece_le (x ++ y) (x.length + 1)
  have q0 : (piece y 0).length = 128 := by rw [piece_length]; simp
  have q1 := piece_le y 1
  have e1 : (encTo (x ++ y) (x.length + 1)).length = bitsZ x + (piece (x ++ y) x.length).length := by rw [encTo, List.length_append, h0]
  have e2 : (encTo (x ++ y) (x.length + 2)).length = bitsZ x + (piece (x ++ y) x.length).length + (piece (x ++ y) (x.length + 1)).length := by rw [show x.length + 2 = (x.length + 1) + 1 from rfl, encTo, List.length_append, e1]
  have f1 : (encTo y 1).length = 128 := by simp [encTo, q0]
  have f2 : (encTo y 2).length = 128 + (piece y 1).length := by rw [show (2 : Nat) = 1 + 1 from rfl, encTo, List.length_append, f1]
  match j with
  | 0 => simp only [Nat.add_zero, encTo, List.length_nil]; omega
  | 1 => omega
  | j + 2 => have := enc_right x y j; omega
theorem bits_app (x y : List (Int × Int)) : bitsZ (x ++ y) ≤ bitsZ x + bitsZ y + 144 := by
  have := (enc_app x y y.length).1
  unfold bitsZ at *
  rw [List.length_append]; exact this
theorem bits_back (x y : List (Int × Int)) : bitsZ x + bitsZ y ≤ bitsZ (x ++ y) + 264 := by
  have := (enc_app x y y.length).2
  unfold bitsZ at *
  rw [List.length_append]; exact this
theorem bits_front (x y : List (Int × Int)) : bitsZ x ≤ bitsZ (x ++ y) := by
  have := encTo_mono (x ++ y) x.length (x ++ y).length (by simp)
  rw [enc_left] at this
  exact this
theorem bits_pos {x : List (Int × Int)} (h : x ≠ []) : 128 ≤ bitsZ x := by
  have hl : 1 ≤ x.length := by cases x with | nil => exact absurd rfl h | cons a l => simp
  have := encTo_mono x 1 x.length hl
  have q0 : (piece x 0).length = 128 := by rw [piece_length]; simp
  have f1 : (encTo x 1).length = 128 := by simp [encTo, q0]
  unfold bitsZ; omega

/-! Chunks that fit; small ones. -/
def Fit (sz : Int) (z : List (Int × Int)) : Prop := (bitsZ z : Int) ≤ 8 * sz
def Small (sz : Int) (z : List (Int × Int)) : Prop := 4 * (usedL z : Int) < sz
instance (sz : Int) (z : List (Int × Int)) : Decidable (Small sz z) := inferInstanceAs (Decidable (_ < _))
instance (sz : Int) (z : List (Int × Int)) : Decidable (Fit sz z) := inferInstanceAs (Decidable (_ ≤ _))
theorem small_bits {sz : Int} {z : List (Int × Int)} (h : Small sz z) : (bitsZ z : Int) ≤ 2 * sz := by unfold Small usedL at h; omega
theorem used_fit (sz : Int) (z : List (Int × Int)) : (usedL z : Int) ≤ sz ↔ Fit sz z := by unfold usedL Fit; omega
theorem fit_one {sz : Int} (hs : 128 ≤ sz) (z : List (Int × Int)) (h : z.length ≤ 2) : Fit sz z := by have := bitsZ_le z; unfold Fit; omega
theorem small_join {sz : Int} (hs : 128 ≤ sz) {x y : List (Int × Int)} (hx : Small sz x) (hy : Small sz y) : Fit sz (x ++ y) := by
  have a := small_bits hx
  have b := small_bits hy
  have c := bits_app x y
  unfold Fit; omega
theorem half_fits {sz : Int} (hs : 128 ≤ sz) {z : List (Int × Int)} (h2 : 2 ≤ z.length) (hf : Fit sz z) : Fit sz (z.take (halfK z)) ∧ Fit sz (z.drop (halfK z)) := by
  have hk := halfK_le z h2
  have e : z.take (halfK z) ++ z.drop (halfK z) = z := List.take_append_drop _ _
  have a := bits_front (z.take (halfK z)) (z.drop (halfK z))
  have b := bits_back (z.take (halfK z)) (z.drop (halfK z))
  rw [e] at a b
  refine ⟨by unfold Fit at *; omega, ?_⟩
  by_cases hl : halfK z = z.length - 1
  · exact fit_one hs _ (by simp; omega)
  · have c : ¬ 2 * (encTo z (halfK z - 1 + 1)).length < bitsZ z := fun hh => absurd ((halfK_iff z (halfK z - 1) (by omega)).1 hh) (by omega)
    rw [show halfK z - 1 + 1 = halfK z from by omega] at c
    have d := bitsZ_take z (halfK z) (by omega)
    unfold Fit at *; omega

/-! Neighbours. -/
def Adj {α : Type} (R : α → α → Prop) : List α → Prop
  | [] => True
  | [_] => True
  | a :: b :: l => R a b ∧ Adj R (b :: l)
theorem adj_app {α : Type} {R : α → α → Prop} (x y : List α) : Adj R (x ++ y) ↔ Adj R x ∧ Adj R y ∧ ∀ a ∈ x.getLast?, ∀ b ∈ y.head?, R a b := by
  induction x with
  | nil => simp [Adj]
  | cons a x ih =>
    cases x with
    | nil =>
      cases y with
      | nil => simp [Adj]
      | cons b y => simp [Adj]; exact And.comm
    | cons c x =>
      simp only [List.cons_append] at ih ⊢
      simp only [Adj, ih, List.getLast?_cons_cons]
      exact and_assoc.symm
def Apart (sz : Int) (a b : List (Int × Int)) : Prop := ¬ (Small sz a ∧ Small sz b)
def lastOf (d : List (List (Int × Int))) : List (Int × Int) := d.getLast?.getD []

/-! Chunks arranged. -/
def arrS (sz : Int) (d : List (List (Int × Int))) (c : List (Int × Int)) : List (List (Int × Int)) :=
  if c.length = 0 then d else if 0 < d.length ∧ Small sz (lastOf d) ∧ Small sz c then d.dropLast ++ [lastOf d ++ c] else d ++ [c]
def arrL (sz : Int) (l : List (List (Int × Int))) : List (List (Int × Int)) := l.foldl (arrS sz) []
theorem arrL_snoc (sz : Int) (l : List (List (Int × Int))) (c : List (Int × Int)) : arrL sz (l ++ [c]) = arrS sz (arrL sz l) c := by unfold arrL; rw [List.foldl_append]; rfl
theorem last_split {d : List (List (Int × Int))} (h : 0 < d.length) : d = d.dropLast ++ [lastOf d] := by
  rcases List.eq_nil_or_concat d with rfl | ⟨i, q, rfl⟩
  · simp at h
  · simp [lastOf]
theorem snoc_ind {α : Type} {P : List α → Prop} (h0 : P []) (h : ∀ l a, P l → P (l ++ [a])) : ∀ l, P l := by
  intro l
  have : ∀ n (l : List α), l.length = n → P l := by
    intro n
    induction n with
    | zero => intro l hl; rw [List.eq_nil_of_length_eq_zero hl]; exact h0
    | succ n ih =>
      intro l hl
      rcases List.eq_nil_or_concat l with rfl | ⟨i, q, rfl⟩
      · exact h0
      · rw [List.concat_eq_append]; exact h i q (ih i (by simp at hl; exact hl))
  exact this _ l rfl
theorem arr_flat (sz : Int) (l : List (List (Int × Int))) : (arrL sz l).flatten = l.flatten := by
  refine snoc_ind (P := fun l => (arrL sz l).flatten = l.flatten) rfl ?_ l
  intro l c ih
  rw [arrL_snoc, List.flatten_append, ← ih]
  unfold arrS
  split
  · rename_i h; rw [List.eq_nil_of_length_eq_zero h]; simp
  · split
    · rename_i h
      conv => rhs; rw [last_split h.1]
      simp
    · simp
theorem arr_good {sz : Int} (hs : 128 ≤ sz) (l : List (List (Int × Int))) (hl : ∀ z ∈ l, Fit sz z) : (∀ z ∈ arrL sz l, z ≠ [] ∧ Fit sz z) ∧ Adj (Apart sz) (arrL sz l) := by
  revert hl
  refine snoc_ind (P := fun l => (∀ z ∈ l, Fit sz z) → (∀ z ∈ arrL sz l, z ≠ [] ∧ Fit sz z) ∧ Adj (Apart sz) (arrL sz l)) (fun _ => ⟨by simp [arrL], by simp [arrL, Adj]⟩) ?_ l
  intro l c ih hl
  obtain ⟨h1, h2⟩ := ih (fun z hz => hl z (by simp [hz]))
  have hc := hl c (by simp)
  rw [arrL_snoc]
  unfold arrS
  split
  · exact ⟨h1, h2⟩
  · rename_i hc0
    have hcn : c ≠ [] := by intro e; rw [e] at hc0; simp at hc0
    split
    · rename_i h
      obtain ⟨hd, hq, hsc⟩ := h
      have e := last_split hd
      generalize lastOf (arrL sz l) = q at *
      generalize (arrL sz l).dropLast = d at *
      rw [e] at h1 h2
      refine ⟨?_, ?_⟩
      · intro z hz
        rcases List.mem_append.1 hz with h | h
        · exact h1 z (by simp [h])
        · simp at h; subst h
          exact ⟨by simp [hcn], small_join hs hq hsc⟩
      · rw [adj_app] at h2 ⊢
        refine ⟨h2.1, trivial, ?_⟩
        intro a ha b hb
        simp at hb
        subst hb
        have := h2.2.2 a ha q (by simp)
        exact fun hh => this ⟨hh.1, hq⟩
    · rename_i h
      refine ⟨?_, ?_⟩
      · intro z hz
        rcases List.mem_append.1 hz with h | h
        · exact h1 z h
        · simp at h; subst h; exact ⟨hcn, hc⟩
      · rw [adj_app]
        refine ⟨h2, trivial, ?_⟩
        intro a ha b hb
        simp at hb
        subst hb
        intro hh
        refine h ⟨?_, ?_, hh.2⟩
        · cases hd : arrL sz l with
          | nil => rw [hd] at ha; simp at ha
          | cons x y => simp
        · unfold lastOf; rw [Option.mem_def.1 ha]; exact hh.1
theorem arr_head (sz : Int) (h : List (Int × Int)) (hn : h ≠ []) (l : List (List (Int × Int))) : ∃ h' rest, arrL sz (h :: l) = h' :: rest ∧ (h' = h ∨ Small sz h) := by
  refine snoc_ind (P := fun l => ∃ h' rest, arrL sz (h :: l) = h' :: rest ∧ (h' = h ∨ Small sz h)) ?_ ?_ l
  · refine ⟨h, [], ?_, .inl rfl⟩
    have : h.length ≠ 0 := by cases h with | nil => exact absurd rfl hn | cons a b => simp
    simp [arrL, arrS, this]
  · rintro l c ⟨h', rest, e, hh⟩
    rw [show h :: (l ++ [c]) = (h :: l) ++ [c] from rfl, arrL_snoc, e]
    unfold arrS
    split
    · exact ⟨h', rest, rfl, hh⟩
    · split
      · rename_i hx
        cases rest with
        | nil =>
          refine ⟨h' ++ c, [], by simp [lastOf], .inr ?_⟩
          rcases hh with rfl | hh
          · have := hx.2.1; simpa [lastOf] using this
          · exact hh
        | cons r rs => exact ⟨h', _, by rw [List.dropLast_cons_cons]; rfl, hh⟩
      · exact ⟨h', rest ++ [c], rfl, hh⟩
theorem arr_last (sz : Int) (r : List (Int × Int)) (hn : r ≠ []) (l : List (List (Int × Int))) : ∃ i q, arrL sz (l ++ [r]) = i ++ [q] ∧ (q = r ∨ Small sz r) := by
  have hr : r.length ≠ 0 := by cases r with | nil => exact absurd rfl hn | cons a b => simp
  rw [arrL_snoc]
  unfold arrS
  rw [if_neg hr]
  split
  · rename_i h; exact ⟨_, _, rfl, .inr h.2.2⟩
  · exact ⟨_, _, rfl, .inl rfl⟩

/-! Other chunks in the place of some. -/
def Good (sz : Int) (l : List (List (Int × Int))) : Prop := (∀ z ∈ l, z ≠ [] ∧ Fit sz z) ∧ Adj (Apart sz) l
def nearL (A P C : List (List (Int × Int))) : List (List (Int × Int)) := A.drop (A.length - 1) ++ P ++ C.take 1
def replL (sz : Int) (A P C : List (List (Int × Int))) : List (List (Int × Int)) := A.take (A.length - 1) ++ arrL sz (nearL A P C) ++ C.drop 1
theorem good_left {sz : Int} {x y : List (List (Int × Int))} (h : Good sz (x ++ y)) : Good sz x := ⟨fun z hz => h.1 z (by simp [hz]), ((adj_app x y).1 h.2).1⟩
theorem good_right {sz : Int} {x y : List (List (Int × Int))} (h : Good sz (x ++ y)) : Good sz y := ⟨fun z hz => h.1 z (by simp [hz]), ((adj_app x y).1 h.2).2.1⟩
theorem repl_flat (sz : Int) (A P C : List (List (Int × Int))) : (replL sz A P C).flatten = A.flatten ++ P.flatten ++ C.flatten := by
  unfold replL nearL
  rw [List.flatten_append, List.flatten_append, arr_flat, List.flatten_append, List.flatten_append]
  have e1 : (A.take (A.length - 1)).flatten ++ (A.drop (A.length - 1)).flatten = A.flatten := by rw [← List.flatten_append, List.take_append_drop]
  have e2 : (C.take 1).flatten ++ (C.drop 1).flatten = C.flatten := by rw [← List.flatten_append, List.take_append_drop]
  rw [← e1, ← e2]
  simp only [List.append_assoc]
theorem repl_good {sz : Int} (hs : 128 ≤ sz) {A P C : List (List (Int × Int))} (hA : Good sz A) (hC : Good sz C) (hP : ∀ z ∈ P, Fit sz z) : Good sz (replL sz A P C) := by
  have hnear : ∀ z ∈ nearL A P C, Fit sz z := by
    intro z hz
    unfold nearL at hz
    rcases List.mem_append.1 hz with h | h
    · rcases List.mem_append.1 h with h | h
      · exact (hA.1 z (List.mem_of_mem_drop h)).2
      · exact hP z h
    · exact (hC.1 z (List.mem_of_mem_take h)).2
  obtain ⟨g1, g2⟩ := arr_good hs _ hnear
  have hA' : Good sz (A.take (A.length - 1)) := good_left (y := A.drop (A.length - 1)) (by rw [List.take_append_drop]; exact hA)
  have hC' : Good sz (C.drop 1) := good_right (x := C.take 1) (by rw [List.take_append_drop]; exact hC)
  refine ⟨?_, ?_⟩
  · intro z hz
    unfold replL at hz
    rcases List.mem_append.1 hz with h | h
    · rcases List.mem_append.1 h with h | h
      · exact hA'.1 z h
      · exact g1 z h
    · exact hC'.1 z h
  · unfold replL
    rw [List.append_assoc, adj_app]
    have hlink1 : ∀ a ∈ (A.take (A.length - 1)).getLast?, ∀ b ∈ (arrL sz (nearL A P C)).head?, Apart sz a b := by
      rcases List.eq_nil_or_concat A with rfl | ⟨A0, h, rfl⟩
      · simp
      · rw [List.concat_eq_append] at *
        intro a ha b hb
        have hh : h ≠ [] := (hA.1 h (by simp)).1
        have e1 : (A0 ++ [h]).take ((A0 ++ [h]).length - 1) = A0 := by simp
        have e2 : nearL (A0 ++ [h]) P C = h :: (P ++ C.take 1) := by unfold nearL; simp
        have hl := ((adj_app A0 [h]).1 hA.2).2.2
        rw [e1] at ha
        rw [e2] at hb
        obtain ⟨h', rest, e, hx⟩ := arr_head sz h hh (P ++ C.take 1)
        rw [e] at hb
        simp at hb
        subst hb
        have := hl a ha h (by simp)
        rcases hx with rfl | hx
        · exact this
        · exact fun hc => this ⟨hc.1, hx⟩
    have hlink2 : ∀ a ∈ (arrL sz (nearL A P C)).getLast?, ∀ b ∈ (C.drop 1).head?, Apart sz a b := by
      cases C with
      | nil => simp
      | cons r C0 =>
        intro a ha b hb
        have hh : r ≠ [] := (hC.1 r (by simp)).1
        have e2 : nearL A P (r :: C0) = (A.drop (A.length - 1) ++ P) ++ [r] := by unfold nearL; simp
        have hl := ((adj_app [r] C0).1 hC.2).2.2
        rw [e2] at ha
        obtain ⟨i, q, e, hx⟩ := arr_last sz r hh (A.drop (A.length - 1) ++ P)
        rw [e] at ha
        simp at ha hb
        subst ha
        have := hl r (by simp) b (by simpa using hb)
        rcases hx with rfl | hx
        · exact this
        · exact fun hc => this ⟨hx, hc.2⟩
    refine ⟨hA'.2, ?_, ?_⟩
    · rw [adj_app]; exact ⟨g2, hC'.2, hlink2⟩
    · intro a ha b hb
      cases hM : arrL sz (nearL A P C) with
      | cons m M =>
        rw [hM] at hb hlink1
        exact hlink1 a ha b (by simpa using hb)
      | nil =>
        exfalso
        rcases List.eq_nil_or_concat A with rfl | ⟨A0, h, rfl⟩
        · simp at ha
        · rw [List.concat_eq_append] at *
          have hh : h ≠ [] := (hA.1 h (by simp)).1
          have e2 : nearL (A0 ++ [h]) P C = h :: (P ++ C.take 1) := by unfold nearL; simp
          rw [e2] at hM
          obtain ⟨h', rest, e, hx⟩ := arr_head sz h hh (P ++ C.take 1)
          rw [e] at hM
          cases hM

end Go.Proofs.YtpbhdlhbcfkhfaaGreat
