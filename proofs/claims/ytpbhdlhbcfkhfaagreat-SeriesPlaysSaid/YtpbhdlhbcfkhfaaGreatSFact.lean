/-
  Plain facts for a series' calls: where a sample is put, what is taken out, how many chunks there are; what each call makes of a series (Ser).
-/
import Derived.Test.YtpbhdlhbcfkhfaaGreatSList
namespace Go.Proofs.YtpbhdlhbcfkhfaaGreat
set_option linter.unusedVariables false
set_option linter.unusedSimpArgs false

theorem flat_ge {Z : List (List (Int × Int))} (h : ∀ z ∈ Z, z ≠ []) : Z.length ≤ Z.flatten.length := by
  induction Z with
  | nil => simp
  | cons a l ih =>
    have h1 := ih (fun z hz => h z (by simp [hz]))
    have h2 : 0 < a.length := by
      have := h a (by simp)
      cases a with
      | nil => exact absurd rfl this
      | cons x y => simp
    rw [List.flatten_cons, List.length_append, List.length_cons]; omega
theorem good_ne {sz : Int} {Z : List (List (Int × Int))} (h : Good sz Z) : ∀ z ∈ Z, z ≠ [] := fun z hz => (h.1 z hz).1
theorem good_nil (sz : Int) : Good sz [] := ⟨by simp, trivial⟩

/-! Where a sample is put. -/
theorem put_place {Z : List (List (Int × Int))} (hr : Rising Z.flatten) (hn : ∀ z ∈ Z, z ≠ []) (h0 : 0 < Z.length) (T : Int) :
    begL Z T - 1 < Z.length ∧ (∀ a ∈ (Z.take (begL Z T - 1)).flatten, a.1 < T) ∧ (∀ a ∈ (Z.drop (begL Z T - 1 + 1)).flatten, T < a.1) := by
  have hl := begL_le Z T
  refine ⟨by omega, beg_ahead hr hn T, ?_⟩
  intro a ha
  refine beg_behind hr hn T a ?_
  by_cases h : begL Z T = 0
  · rw [h] at ha ⊢
    obtain ⟨z, hz, haz⟩ := List.mem_flatten.1 ha
    exact List.mem_flatten.2 ⟨z, by rw [List.drop_zero]; exact List.mem_of_mem_drop hz, haz⟩
  · rwa [show begL Z T - 1 + 1 = begL Z T from by omega] at ha
theorem split_at {Z : List (List (Int × Int))} {k : Nat} (h : k < Z.length) : Z = Z.take k ++ [Z.getD k []] ++ Z.drop (k + 1) := by
  rw [chunk_get h]
  conv => lhs; rw [← List.take_append_drop k Z, List.drop_eq_getElem_cons h]
  simp
theorem put_flat {Z : List (List (Int × Int))} (hr : Rising Z.flatten) (hn : ∀ z ∈ Z, z ≠ []) (h0 : 0 < Z.length) (T V p : Int) :
    newV Z.flatten T V p = newV (Z.getD (begL Z T - 1) []) T V p ∧ ∀ v, insL Z.flatten T v = (Z.take (begL Z T - 1)).flatten ++ insL (Z.getD (begL Z T - 1) []) T v ++ (Z.drop (begL Z T - 1 + 1)).flatten := by
  obtain ⟨h1, h2, h3⟩ := put_place hr hn h0 T
  have hy : Rising (Z.getD (begL Z T - 1) []) := flat_rising hr (by rw [chunk_get h1]; exact List.getElem_mem h1)
  have e : Z.flatten = (Z.take (begL Z T - 1)).flatten ++ Z.getD (begL Z T - 1) [] ++ (Z.drop (begL Z T - 1 + 1)).flatten := by
    conv => lhs; rw [split_at h1]
    simp
  exact ⟨by rw [e]; exact newV_parts V p hy h2 h3, fun v => by rw [e]; exact ins_parts v hy h2 h3⟩
theorem get_flat {Z : List (List (Int × Int))} (hr : Rising Z.flatten) (hn : ∀ z ∈ Z, z ≠ []) (h0 : 0 < Z.length) (T : Int) :
    getL Z.flatten T = getL (Z.getD (begL Z T - 1) []) T := by
  obtain ⟨h1, h2, h3⟩ := put_place hr hn h0 T
  have hy : Rising (Z.getD (begL Z T - 1) []) := flat_rising hr (by rw [chunk_get h1]; exact List.getElem_mem h1)
  have e : Z.flatten = (Z.take (begL Z T - 1)).flatten ++ Z.getD (begL Z T - 1) [] ++ (Z.drop (begL Z T - 1 + 1)).flatten := by
    conv => lhs; rw [split_at h1]
    simp
  rw [e]; exact getL_parts hy h2 h3
theorem get_none {Z : List (List (Int × Int))} (hr : Rising Z.flatten) (hn : ∀ z ∈ Z, z ≠ []) (T : Int) (h : begL Z T = 0) : getL Z.flatten T = (0, 5) := by
  refine getL_no hr fun x hx => ?_
  have := beg_behind hr hn T x (by rw [h, List.drop_zero]; exact hx)
  omega

/-! What is taken out. -/
theorem map_drop_len (Y : List (List (Int × Int))) (a b : Int) : Y.flatten.length = (Y.map fun z => dropL z a b).flatten.length + (Y.map fun z => dropN z a b).sum := by
  induction Y with
  | nil => simp
  | cons y Y ih =>
    have := dropN_len y a b
    simp only [List.flatten_cons, List.map_cons, List.length_append, List.sum_cons]
    omega
theorem dropN_zero {z : List (Int × Int)} {a b : Int} (h : dropN z a b = 0) : dropL z a b = z := by
  unfold dropN at h
  unfold dropL
  rw [if_pos (by omega)]
theorem del_sum {Z : List (List (Int × Int))} (hr : Rising Z.flatten) (hn : ∀ z ∈ Z, z ≠ []) (a b : Int) : dropN Z.flatten a b = ((midL Z (winA Z a b) (winB Z a b)).map fun z => dropN z a b).sum := by
  have h1 := dropN_len Z.flatten a b
  have h2 := map_drop_len (midL Z (winA Z a b) (winB Z a b)) a b
  have h3 := congrArg List.length (win_kept hr hn a b)
  have h4 := congrArg (fun l => (List.flatten l).length) (three Z (winA Z a b) (winB Z a b) (win_le hr hn a b).1)
  simp only [List.length_append, List.flatten_append] at h3 h4
  omega

/-! How many chunks there are. -/
theorem not_small {sz : Int} {z : List (Int × Int)} (h : ¬ Small sz z) : sz ≤ 68 * (z.length : Int) := by
  have := bitsZ_le z
  unfold Small usedL at h
  omega
theorem half_chunks {sz : Int} (hs : 128 ≤ sz) (n : Nat) : ∀ Z : List (List (Int × Int)), Z.length ≤ n → Adj (Apart sz) Z → ((Z.length / 2 : Nat) : Int) * sz ≤ 68 * (Z.flatten.length : Int) := by
  induction n with
  | zero => intro Z hZ _; have : Z.length = 0 := by omega
            rw [this]; simp only [Nat.zero_div, Int.natCast_zero, Int.zero_mul]; omega
  | succ n ih =>
    intro Z hZ ha
    match Z, hZ, ha with
    | [], _, _ => simp
    | [x], _, _ => simp only [List.length_singleton, Nat.reduceDiv, Int.natCast_zero, Int.zero_mul]; omega
    | a :: b :: l, hZ, ha =>
      obtain ⟨h1, h2⟩ := ha
      have h3 : Adj (Apart sz) l := by
        cases l with
        | nil => trivial
        | cons c l => exact h2.2
      have h4 := ih l (by simp at hZ; omega) h3
      have h5 : sz ≤ 68 * ((a.length : Int) + (b.length : Int)) := by
        by_cases hx : Small sz a
        · have := not_small (sz := sz) (z := b) (fun hb => h1 ⟨hx, hb⟩); omega
        · have := not_small hx; omega
      have e : (a :: b :: l).length / 2 = l.length / 2 + 1 := by simp; omega
      rw [e]
      simp only [List.flatten_cons, List.length_append]
      push_cast
      rw [Int.add_mul, Int.one_mul]
      push_cast at h4
      generalize ((l.length : Int) / 2) * sz = q at *
      omega
theorem chunks_few {sz : Int} (hs : 128 ≤ sz) {Z : List (List (Int × Int))} (h : Good sz Z) : (Z.length : Int) ≤ 2 * (68 * (Z.flatten.length : Int) / sz) + 1 := by
  have h1 := half_chunks hs Z.length Z (Nat.le_refl _) h.2
  have h2 : ((Z.length / 2 : Nat) : Int) ≤ 68 * (Z.flatten.length : Int) / sz := (Int.le_ediv_iff_mul_le (by omega)).2 h1
  omega
theorem adj_get {α : Type} {R : α → α → Prop} : ∀ (Z : List α), Adj R Z → ∀ i (h : i + 1 < Z.length), R Z[i] Z[i + 1]
  | [], _, i, h => by simp at h
  | [_], _, i, h => by simp at h
  | a :: b :: l, ha, 0, h => ha.1
  | a :: b :: l, ha, i + 1, h => adj_get (b :: l) ha.2 i (by simpa using h)
theorem good_used {sz : Int} {Z : List (List (Int × Int))} (h : Good sz Z) (i : Nat) (hi : i < Z.length) : 1 ≤ usedL (Z.getD i []) ∧ (usedL (Z.getD i []) : Int) ≤ sz := by
  rw [chunk_get hi]
  obtain ⟨h1, h2⟩ := h.1 _ (List.getElem_mem hi)
  refine ⟨?_, (used_fit sz _).2 h2⟩
  have := bits_pos h1
  unfold usedL; omega
theorem good_apart {sz : Int} {Z : List (List (Int × Int))} (h : Good sz Z) (i : Nat) (hi : i + 1 < Z.length) : ¬ (4 * (usedL (Z.getD (i + 1) []) : Int) < sz ∧ 4 * (usedL (Z.getD i []) : Int) < sz) := by
  rw [chunk_get hi, chunk_get (by omega)]
  exact fun hc => adj_get Z h.2 i hi ⟨hc.2, hc.1⟩

/-! A series, and what each call makes of it. -/
structure Ser where
  ret : Int
  pol : Int
  mx : Int
  line : Int
  z : List (Int × Int)
def lineS (s : Ser) : Int := if 0 < s.ret then max s.line (s.mx - s.ret) else s.line
def trimS (s : Ser) : Ser := ⟨s.ret, s.pol, s.mx, lineS s, dropL s.z 0 (lineS s - 1)⟩
def polS (s : Ser) (p : Int) : Int := if p = 0 then s.pol else p
def badS (s : Ser) (T p : Int) : Prop := T < 0 ∨ 1099511627776 ≤ T ∨ ¬ (1 ≤ polS s p ∧ polS s p ≤ 6)
instance (s : Ser) (T p : Int) : Decidable (badS s T p) := inferInstanceAs (Decidable (_ ∨ _))
def addE (s : Ser) (T V p : Int) : Int := if badS s T p then 1 else if T < s.line then 7 else (newV s.z T V (polS s p)).2
def addS5 (s : Ser) (T V p : Int) : Ser := if addE s T V p = 0 then trimS ⟨s.ret, s.pol, max s.mx T, s.line, insL s.z T (newV s.z T V (polS s p)).1⟩ else s
def delS (s : Ser) (a b : Int) : Ser := ⟨s.ret, s.pol, s.mx, s.line, dropL s.z a b⟩
def keepB (ret p : Int) : Prop := (0 ≤ ret ∧ ret ≤ 1099511627776) ∧ 1 ≤ p ∧ p ≤ 6
instance (ret p : Int) : Decidable (keepB ret p) := inferInstanceAs (Decidable (_ ∧ _))
def altE (ret p : Int) : Int := if keepB ret p then 0 else 1
def altS (s : Ser) (ret p : Int) : Ser := if keepB ret p then trimS ⟨ret, p, s.mx, s.line, s.z⟩ else s
/-- What a series' numbers keep to. -/
structure Std (s : Ser) : Prop where
  r0 : 0 ≤ s.ret
  r1 : s.ret ≤ 1099511627776
  p0 : 1 ≤ s.pol
  p1 : s.pol ≤ 6
  m0 : -1 ≤ s.mx
  m1 : s.mx < 1099511627776
  l0 : 0 ≤ s.line
  l1 : s.line ≤ max 0 s.mx
  lr : s.ret = 0 ∨ s.mx - s.ret ≤ s.line
  rise : Rising s.z
  all : All64 s.z
  z0 : ∀ x ∈ s.z, s.line ≤ x.1
  z1 : ∀ x ∈ s.z, x.1 ≤ s.mx
theorem drop_all {z : List (Int × Int)} (h : Rising z) {a b : Int} (hk : ∀ x ∈ z, x.1 < a ∨ b < x.1) : dropL z a b = z := by
  rw [← filter_is h]
  exact List.filter_eq_self.2 fun x hx => by have := hk x hx; simp; omega
theorem Std.trim {s : Ser} (r0 : 0 ≤ s.ret) (r1 : s.ret ≤ 1099511627776) (p0 : 1 ≤ s.pol) (p1 : s.pol ≤ 6) (m0 : -1 ≤ s.mx) (m1 : s.mx < 1099511627776) (l0 : 0 ≤ s.line) (l1 : s.line ≤ max 0 s.mx) (rise : Rising s.z) (all : All64 s.z) (z0 : ∀ x ∈ s.z, 0 ≤ x.1) (z1 : ∀ x ∈ s.z, x.1 ≤ s.mx) : Std (trimS s) := by
  have hl : lineS s = s.line ∨ lineS s = s.mx - s.ret := by unfold lineS; split <;> omega
  have hl2 : s.line ≤ lineS s := by unfold lineS; split <;> omega
  have hl3 : s.ret = 0 ∨ s.mx - s.ret ≤ lineS s := by unfold lineS; split <;> omega
  have hl4 : lineS s ≤ max 0 s.mx := by rcases hl with h | h <;> omega
  refine ⟨r0, r1, p0, p1, m0, m1, by show 0 ≤ lineS s; omega, hl4, hl3, dropL_rising rise _ _, dropL_all64 all _ _, ?_, ?_⟩
  · intro x hx
    have h := (dropL_mem rise _ _ x).1 hx
    have h0 := z0 x h.1
    show lineS s ≤ x.1
    omega
  · intro x hx
    exact z1 x ((dropL_mem rise _ _ x).1 hx).1
theorem Std.pos {s : Ser} (h : Std s) : ∀ x ∈ s.z, 0 ≤ x.1 := fun x hx => by have := h.z0 x hx; have := h.l0; omega
theorem Std.del {s : Ser} (h : Std s) (a b : Int) : Std (delS s a b) :=
  ⟨h.r0, h.r1, h.p0, h.p1, h.m0, h.m1, h.l0, h.l1, h.lr, dropL_rising h.rise _ _, dropL_all64 h.all _ _, fun x hx => h.z0 x ((dropL_mem h.rise _ _ x).1 hx).1, fun x hx => h.z1 x ((dropL_mem h.rise _ _ x).1 hx).1⟩
theorem Std.alt {s : Ser} (h : Std s) (ret p : Int) : Std (altS s ret p) := by
  unfold altS
  split
  · rename_i hk
    obtain ⟨⟨k1, k2⟩, k3, k4⟩ := hk
    exact Std.trim k1 k2 k3 k4 h.m0 h.m1 h.l0 h.l1 h.rise h.all h.pos h.z1
  · exact h
theorem Std.add {s : Ser} (h : Std s) (T V p : Int) (hV : in64 V) : Std (addS5 s T V p) := by
  unfold addS5
  split
  · rename_i he
    unfold addE at he
    split at he
    · omega
    · rename_i hb
      unfold badS at hb
      have hm0 := h.m0
      have hm1 := h.m1
      have hl1 := h.l1
      have hv : in64 (newV s.z T V (polS s p)).1 := newV_in h.all hV
      refine Std.trim h.r0 h.r1 h.p0 h.p1 (by show -1 ≤ max s.mx T; omega) (by show max s.mx T < _; omega) h.l0 (by show s.line ≤ max 0 (max s.mx T); omega) (insL_rising h.rise _ _) (insL_all64 h.all ⟨by omega, by omega⟩ hv) ?_ ?_
      · intro x hx
        rcases (insL_mem h.rise _ _ x).1 hx with ⟨hx, _⟩ | rfl
        · exact h.pos x hx
        · show 0 ≤ T; omega
      · intro x hx
        show x.1 ≤ max s.mx T
        rcases (insL_mem h.rise _ _ x).1 hx with ⟨hx, _⟩ | rfl
        · have := h.z1 x hx; omega
        · show T ≤ max s.mx T; omega
  · exact h
theorem trim_len (s : Ser) : (trimS s).z.length ≤ s.z.length := by
  show (dropL s.z 0 (lineS s - 1)).length ≤ _
  have := dropN_len s.z 0 (lineS s - 1); omega
theorem del_len (s : Ser) (a b : Int) : (delS s a b).z.length ≤ s.z.length := by
  show (dropL s.z a b).length ≤ _
  have := dropN_len s.z a b; omega
theorem alt_len (s : Ser) (ret p : Int) : (altS s ret p).z.length ≤ s.z.length := by
  unfold altS; split
  · exact trim_len ⟨ret, p, s.mx, s.line, s.z⟩
  · exact Nat.le_refl _
theorem add_len {s : Ser} (h : Rising s.z) (T V p : Int) : (addS5 s T V p).z.length ≤ s.z.length + 1 := by
  unfold addS5; split
  · refine Nat.le_trans (trim_len _) ?_
    show (insL s.z T (newV s.z T V (polS s p)).1).length ≤ _
    rw [insL_length _ _ _ h]; omega
  · omega

end Go.Proofs.YtpbhdlhbcfkhfaaGreat
