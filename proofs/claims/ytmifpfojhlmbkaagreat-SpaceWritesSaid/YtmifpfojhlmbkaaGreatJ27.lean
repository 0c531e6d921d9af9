/-
  Contracts.
-/
import Derived.Test.YtmifpfojhlmbkaaGreatJ24
import Derived.Test.YtmifpfojhlmbkaaGreatJ25
namespace Go.Proofs.YtmifpfojhlmbkaaGreat
open Lib (hid)
set_option maxRecDepth 100000
set_option maxHeartbeats 16000000
set_option linter.unusedVariables false
set_option linter.unusedSimpArgs false
structure Qry where
  fr : Int
  «to» : Int
  back : Bool
  cnt : Int
  kd : Int
  sz : Int
  al : Int
  emp : Bool
  tm : List Int
  vals : Bool
  lo : Int
  hi : Int
def rightQ (q : Qry) : Prop := 0 ≤ q.cnt ∧ q.tm.length ≤ 32 ∧ (q.kd = 0 → q.emp = false) ∧ (q.kd ≠ 0 → (1 ≤ q.kd ∧ q.kd ≤ 7) ∧ rightB q.sz q.al)
instance (q : Qry) : Decidable (rightQ q) := inferInstanceAs (Decidable (_ ∧ _))
def inQ (lo hi n : Int) : Bool := decide (lo ≤ n) && decide (n ≤ hi)
def passB (q : Qry) (x : Int × Int) : Bool := inQ q.fr q.to x.1 && (decide (q.tm.length = 0) || q.tm.contains x.1) && (!q.vals || inQ q.lo q.hi x.2)
def cntG (size b e : Int) : Nat := if b < e then ((e - b - 1) / size + 1).toNat else 0
def gapL (size v b : Int) (n : Nat) : List (Int × Int) := (List.range n).map fun i : Nat => (b + (i : Int) * size, v)
theorem gapL_len (size v b : Int) (n : Nat) : (gapL size v b n).length = n := by simp [gapL]
theorem gapL_zero (size v b : Int) : gapL size v b 0 = [] := rfl
theorem gapL_succ (size v b : Int) (n : Nat) : gapL size v b (n + 1) = gapL size v b n ++ [(b + (n : Int) * size, v)] := by
  unfold gapL
  rw [List.range_succ, List.map_append]; rfl
theorem cntG_iff {size b e : Int} (hs : 1 ≤ size) (j : Nat) : j < cntG size b e ↔ b + (j : Int) * size < e := by
  unfold cntG
  have hj0 : 0 ≤ (j : Int) * size := Int.mul_nonneg (by omega) (by omega)
  split
  · rename_i h
    have h1 := Int.le_ediv_iff_mul_le (a := (j : Int)) (b := e - b - 1) (show 0 < size by omega)
    have h2 : 0 ≤ (e - b - 1) / size := Int.ediv_nonneg (by omega) (by omega)
    constructor
    · intro h3
      have := h1.1 (by omega)
      omega
    · intro h3
      have := h1.2 (by omega)
      omega
  · constructor
    · intro h3; omega
    · intro h3; omega
def emptyV (k v : Int) : Option Int := if k = 1 ∨ k = 4 then some 0 else if k = 6 then some v else none
def gapAt (k size align : Int) (z : List (Int × Int)) (j : Nat) : List (Int × Int) :=
  match emptyV k (vOf z j) with
  | some v => if j + 1 < z.length then gapL size v (endB (tOf z j) size align) (cntG size (endB (tOf z j) size align) (tOf z (j + 1))) else []
  | none => []
def fillP (k size align : Int) (z : List (Int × Int)) : Nat → List (Int × Int)
  | 0 => []
  | j + 1 => fillP k size align z j ++ ((tOf z j, vOf z j) :: gapAt k size align z j)
def areB (size align : Int) (z : List (Int × Int)) : Prop := ∀ j, j < z.length → startB (tOf z j) size align = tOf z j ∧ (0 < j → tOf z (j - 1) < tOf z j)
instance (size align : Int) (z : List (Int × Int)) : Decidable (areB size align z) := inferInstanceAs (Decidable (∀ j, j < z.length → _))
def okF (k size align : Int) (z : List (Int × Int)) : Prop := ((1 ≤ k ∧ k ≤ 7) ∧ rightB size align) ∧ areB size align z
instance (k size align : Int) (z : List (Int × Int)) : Decidable (okF k size align z) := inferInstanceAs (Decidable (_ ∧ _))
def fillR (k size align : Int) (z : List (Int × Int)) : List (Int × Int) × Int :=
  if okF k size align z then if 10000 < (fillP k size align z z.length).length then ([], 13) else (fillP k size align z z.length, 0) else ([], 1)
theorem startB_fix {t size align : Int} (h : rightB size align) (e : startB t size align = t) : 0 ≤ t ∧ t ≤ 1099511627776 := by
  have ha := h.2.1
  unfold startB at e
  split at e
  · subst e; omega
  · rename_i hn
    have : ¬ t < align := fun h' => hn (.inr (.inl h'))
    have : ¬ 1099511627776 < t := fun h' => hn (.inr (.inr h'))
    omega
theorem gap_step {t size align : Int} (h : rightB size align) (e : startB t size align = t) (j : Nat) (hj : endB t size align + (j : Int) * size ≤ 1099511627776) :
    startB (endB t size align + (j : Int) * size) size align = endB t size align + (j : Int) * size ∧ endB (endB t size align + (j : Int) * size) size align = endB t size align + ((j + 1 : Nat) : Int) * size ∧ t < endB t size align ∧ align ≤ endB t size align ∧ 0 ≤ (j : Int) * size := by
  obtain ⟨h0, h1⟩ := startB_fix h e
  have hs := h.1.1
  have ha := h.2.1
  have hj0 : 0 ≤ (j : Int) * size := Int.mul_nonneg (by omega) (by omega)
  have hlt := (endB_is h h0 h1).2.1
  have hE : endB t size align ≤ 1099511627776 := by omega
  have hal : align ≤ endB t size align := by rw [endB_of h h0 h1]; split <;> omega
  have hst := endB_next h h0 h1 hE
  obtain ⟨m, hm0, hm⟩ : ∃ m, 0 ≤ m ∧ endB t size align = align + m * size := by
    rcases startB_is h (show 0 ≤ endB t size align by omega) hE with ⟨h2, _⟩ | ⟨_, m, hm0, h3, _⟩
    · omega
    · exact ⟨m, hm0, by rw [← hst]; exact h3⟩
  generalize endB t size align = b at *
  have e1 : b + (j : Int) * size = align + (m + j) * size := by rw [Int.add_mul]; omega
  have e2 : startB (b + (j : Int) * size) size align = b + (j : Int) * size := by
    rw [e1]
    exact startB_eq h (by rw [← e1]; exact hj) (by omega) (by omega) (by omega)
  refine ⟨e2, ?_, hlt, hal, hj0⟩
  rw [endB_of h (by omega) hj, if_neg (by omega), e2]
  rw [show ((j + 1 : Nat) : Int) = (j : Int) + 1 from by omega, Int.add_mul, Int.one_mul]; omega
theorem fillP_succ (k size align : Int) (z : List (Int × Int)) (j : Nat) : fillP k size align z (j + 1) = fillP k size align z j ++ [(tOf z j, vOf z j)] ++ gapAt k size align z j := by
  rw [fillP, List.append_assoc]; rfl
theorem fillP_mono (k size align : Int) (z : List (Int × Int)) (i n : Nat) : (fillP k size align z i).length ≤ (fillP k size align z (i + n)).length := by
  induction n with
  | zero => exact Nat.le_refl _
  | succ n ih =>
    rw [show i + (n + 1) = i + n + 1 from by omega, fillP, List.length_append]
    omega
theorem fillP_le (k size align : Int) (z : List (Int × Int)) {i j : Nat} (h : i ≤ j) : (fillP k size align z i).length ≤ (fillP k size align z j).length := by
  have := fillP_mono k size align z i (j - i)
  rwa [show i + (j - i) = j from by omega] at this
theorem gapAt_none {k size align : Int} {z : List (Int × Int)} {j : Nat} (h : emptyV k (vOf z j) = none) : gapAt k size align z j = [] := by unfold gapAt; rw [h]
theorem gapAt_last {k size align : Int} {z : List (Int × Int)} {j : Nat} (h : z.length ≤ j + 1) : gapAt k size align z j = [] := by
  unfold gapAt
  split
  · rw [if_neg (by omega)]
  · rfl
theorem gapAt_some {k size align v : Int} {z : List (Int × Int)} {j : Nat} (h : emptyV k (vOf z j) = some v) (hj : j + 1 < z.length) : gapAt k size align z j = gapL size v (endB (tOf z j) size align) (cntG size (endB (tOf z j) size align) (tOf z (j + 1))) := by
  unfold gapAt
  rw [h]
  simp only
  rw [if_pos hj]
theorem pair_at (z : List (Int × Int)) (j : Nat) (h : j < z.length) : z[j] = (tOf z j, vOf z j) := by
  unfold tOf vOf
  rw [List.getD_eq_getElem?_getD, List.getElem?_eq_getElem h]; rfl
def madeR (q : Qry) (z : List (Int × Int)) : List (Int × Int) × Int :=
  if q.kd = 0 then (z, 0) else if q.emp = true then fillR q.kd q.sz q.al (buckA q.kd q.sz q.al z) else (buckA q.kd q.sz q.al z, 0)
def turnR (b : Bool) (z : List (Int × Int)) : List (Int × Int) := if b = true then z.reverse else z
def cutR (n : Int) (z : List (Int × Int)) : List (Int × Int) := if n = 0 then z else z.take n.toNat
def tellR (q : Qry) (z : List (Int × Int)) : List (Int × Int) × Int :=
  if rightQ q then if (madeR q (z.filter (passB q))).2 = 0 then (cutR q.cnt (turnR q.back (madeR q (z.filter (passB q))).1), 0) else ([], (madeR q (z.filter (passB q))).2) else ([], 1)
open Go.RowKit
def IntAt (w : World) (a : Option Addr) (n c : Nat) (l : List Int) : Prop :=
  l.length = n ∧ n ≤ c ∧ n ≤ 9223372036854775807 ∧ (∀ x ∈ l, in64 x) ∧
  (n = 0 ∨ ∃ b off, a = some ⟨b, off, none⟩ ∧ b < w.heap.size ∧ ∀ i, i < n → w.cell? ⟨b, off + i, none⟩ = some (.int .i64 (l.getD i 0)))
theorem IntAt.keep {w w' : World} {a : Option Addr} {n c : Nat} {l : List Int} (h : IntAt w a n c l) (hb : Below w.heap.size w w') : IntAt w' a n c l := by
  obtain ⟨h1, h2, h3, h4, h5⟩ := h
  refine ⟨h1, h2, h3, h4, ?_⟩
  rcases h5 with h0 | ⟨b, off, rfl, hlt, hc⟩
  · exact .inl h0
  · exact .inr ⟨b, off, rfl, Nat.lt_of_lt_of_le hlt hb.size, fun i hi => by rw [hb.cell hlt]; exact hc i hi⟩
theorem IntAt.at_ {w : World} {a : Option Addr} {n c : Nat} {l : List Int} (h : IntAt w a n c l) (i : Nat) (hi : i < n) :
    ∃ b off, a = some ⟨b, off, none⟩ ∧ b < w.heap.size ∧ w.cell? ⟨b, off + i, none⟩ = some (.int .i64 (l.getD i 0)) := by
  obtain ⟨h1, h2, h3, h4, h5⟩ := h
  rcases h5 with h0 | ⟨b, off, rfl, hlt, hc⟩
  · omega
  · exact ⟨b, off, rfl, hlt, hc i hi⟩
theorem getD_mem (l : List Int) (j : Nat) (h : j < l.length) : l.getD j 0 ∈ l := by
  rw [List.getD_eq_getElem?_getD, List.getElem?_eq_getElem h]
  exact List.getElem_mem h
theorem take_not {l : List Int} {x : Int} {j : Nat} (h : j < l.length) (h1 : x ∉ l.take j) (h2 : x ≠ l.getD j 0) : x ∉ l.take (j + 1) := by
  rw [List.take_succ_eq_append_getElem h]
  intro hm
  rcases List.mem_append.1 hm with hm | hm
  · exact h1 hm
  · rw [List.mem_singleton] at hm
    apply h2
    rw [List.getD_eq_getElem?_getD, List.getElem?_eq_getElem h]; exact hm
theorem index_any (a : Option Addr) (n c : Nat) (l : List Int) (x : Int) (w : World) (h : IntAt w a n c l) :
    Calls Tryz.prog 314 #[.slice a n c, .int .i64 x] w fun e w' => (∃ r : Int, e = .returned (.int .i64 r) ∧ (0 ≤ r ↔ x ∈ l)) ∧ w = w' := by
  have HL := hid h.1
  have b1 := h.2.2.1
  have HS := hid h
  clear h
  go_enter Tryz.func314, Tryz.ntmps314
  go_wp2
  go_loopw [8] (fun i wr => ∃ j : Nat, j ≤ n ∧ i = .int .i64 (j : Int) ∧ Hid (x ∉ l.take j) ∧ w = wr) (fun i _ => n - (intOf i).toNat)
  case atStart => exact ⟨0, Nat.zero_le _, rfl, hid (by simp), rfl⟩
  case round =>
    obtain ⟨j, hj, rfl, HT, rfl⟩ := hrel
    by_cases hjn : j < n
    · obtain ⟨p, o, rfl, hp, x0⟩ := HS.out.at_ j hjn
      have HM := hid (getD_mem l j (by rw [HL.out]; exact hjn))
      have HN := hid (take_not (l := l) (x := x) (j := j) (by rw [HL.out]; exact hjn) HT.out)
      generalize l.getD j 0 = y at *
      by_cases he : x = y
      · subst he
        have tb : (x == x) = true := beq_self_eq_true x
        clear HN HT
        go_wp2
        go_ret
        exact ⟨⟨(j : Int), rfl, ⟨fun _ => HM.out, fun _ => by omega⟩⟩, rfl⟩
      · have HN2 := hid (HN.out he)
        have tb : (x == y) = false := beq_eq_false_iff_ne.2 he
        clear HN HT he
        go_wp2
        go_roundw
        case rel => exact ⟨j + 1, by omega, by go_num, HN2, by trivial⟩
        case measure => simp [intOf]; omega
    · obtain rfl : j = n := by omega
      have E := hid (show x ∉ l from by have := HT.out; rwa [List.take_of_length_le (by rw [HL.out]; exact Nat.le_refl _)] at this)
      go_wp2
      go_ret
      exact ⟨⟨-1, rfl, ⟨fun h => by omega, fun h => absurd h E.out⟩⟩, rfl⟩
theorem contains_any (a : Option Addr) (n c : Nat) (l : List Int) (x : Int) (w : World) (h : IntAt w a n c l) :
    Calls Tryz.prog 279 #[.slice a n c, .int .i64 x] w fun e w' => e = .returned (.bool (l.contains x)) ∧ w = w' := by
  have HS := hid h
  obtain ⟨r, hr⟩ : ∃ r, l.contains x = r := ⟨_, rfl⟩
  have HR := hid hr
  rw [hr]
  clear h hr
  go_enter Tryz.func279, Tryz.ntmps279
  go_wp2_with fail
  refine (index_any a n c l x _ HS.out).mono ?_
  rintro e w' ⟨⟨i, rfl, hi⟩, rfl⟩
  have hb : r = decide (0 ≤ i) := by
    rw [← HR.out]
    by_cases hm : x ∈ l
    · rw [decide_eq_true (hi.2 hm)]; simpa using hm
    · rw [decide_eq_false (fun h => hm (hi.1 h))]; simpa using hm
  have HB := hid hb
  clear hb hi
  go_wp2
  go_ret
  exact ⟨ret_bool HB.out.symm, rfl⟩
theorem within_any (n lo hi : Int) (w : World) :
    Calls Tryz.prog 278 #[.int .i64 n, .int .i64 lo, .int .i64 hi] w fun e w' => e = .returned (.bool (inQ lo hi n)) ∧ w = w' := by
  by_cases h1 : lo ≤ n
  · by_cases h2 : n ≤ hi
    · have E := hid (show inQ lo hi n = true by unfold inQ; simp [h1, h2])
      go_enter Tryz.func278, Tryz.ntmps278
      go_wp2
      go_ret
      exact ⟨ret_bool E.out.symm, rfl⟩
    · have E := hid (show inQ lo hi n = false by unfold inQ; simp [h1, h2])
      go_enter Tryz.func278, Tryz.ntmps278
      go_wp2
      go_ret
      exact ⟨ret_bool E.out.symm, rfl⟩
  · have E := hid (show inQ lo hi n = false by unfold inQ; simp [h1])
    go_enter Tryz.func278, Tryz.ntmps278
    go_wp2
    go_ret
    exact ⟨ret_bool E.out.symm, rfl⟩
theorem endB_pos {size align : Int} : 0 < endB 0 size align ↔ rightB size align := by
  constructor
  · intro h
    by_cases hr : rightB size align
    · exact hr
    · unfold endB at h; rw [if_pos (.inl hr)] at h; omega
  · intro h
    exact (endB_is h (t := 0) (by omega) (by omega)).2.1
def canF (k size align : Int) : Bool := decide ((1 ≤ k ∧ k ≤ 7) ∧ rightB size align)
theorem canfold_any (k size align : Int) (w : World) :
    Calls Tryz.prog 273 #[.int .i64 k, .int .i64 size, .int .i64 align] w fun e w' => e = .returned (.bool (canF k size align)) ∧ w = w' := by
  by_cases hk : kok k
  · by_cases hr : rightB size align
    · have E := hid (show canF k size align = true from decide_eq_true ⟨hk, hr⟩)
      have hp := endB_pos.2 hr
      have HK := hid hk
      clear hk hr
      go_enter Tryz.func273, Tryz.ntmps273
      go_wp2_with fail
      refine (aright_any k _).mono ?_
      rintro e w' ⟨rfl, rfl⟩
      rw [decide_eq_true HK.out]
      go_wp2_with fail
      refine (end_any 0 size align _).mono ?_
      rintro e w' ⟨rfl, rfl⟩
      generalize endB 0 size align = b at *
      go_wp2
      go_ret
      exact ⟨ret_bool E.out.symm, rfl⟩
    · have E := hid (show canF k size align = false from decide_eq_false (fun h => hr h.2))
      have hp : ¬ 0 < endB 0 size align := fun h => hr (endB_pos.1 h)
      have HK := hid hk
      clear hk hr
      go_enter Tryz.func273, Tryz.ntmps273
      go_wp2_with fail
      refine (aright_any k _).mono ?_
      rintro e w' ⟨rfl, rfl⟩
      rw [decide_eq_true HK.out]
      go_wp2_with fail
      refine (end_any 0 size align _).mono ?_
      rintro e w' ⟨rfl, rfl⟩
      generalize endB 0 size align = b at *
      go_wp2
      go_ret
      exact ⟨ret_bool (by rw [E.out, decide_eq_false_iff_not]; omega), rfl⟩
  · have E := hid (show canF k size align = false from decide_eq_false (fun h => hk h.1))
    have HK := hid hk
    clear hk
    go_enter Tryz.func273, Tryz.ntmps273
    go_wp2_with fail
    refine (aright_any k _).mono ?_
    rintro e w' ⟨rfl, rfl⟩
    rw [decide_eq_false HK.out]
    go_wp2
    go_ret
    exact ⟨ret_bool E.out.symm, rfl⟩
def qv (q : Qry) (a : Option Addr) (n c : Nat) : Value := .agg #[.int .i64 q.fr, .int .i64 q.to, .bool q.back, .int .i64 q.cnt, .int .i64 q.kd, .int .i64 q.sz, .int .i64 q.al, .bool q.emp, .slice a n c, .bool q.vals, .int .i64 q.lo, .int .i64 q.hi]
def canM (q : Qry) : Bool := decide ((q.kd = 0 → q.emp = false) ∧ (q.kd ≠ 0 → (1 ≤ q.kd ∧ q.kd ≤ 7) ∧ rightB q.sz q.al))
theorem canmake_any (q : Qry) (a : Option Addr) (n c : Nat) (w : World) :
    Calls Tryz.prog 219 #[qv q a n c] w fun e w' => e = .returned (.bool (canM q)) ∧ Below w.heap.size w w' := by
  obtain ⟨fr, to_, back, cnt, kd, sz, al, emp, tm, vals, lo, hi⟩ := q
  unfold qv
  simp only
  have B0 : ∀ o, Below w.heap.size w (w.alloc o) := fun o => (Below.refl _ _).alloc (Nat.le_refl _) o
  have HB := hid B0
  clear B0
  by_cases hk : kd = 0
  · subst hk
    cases emp
    · have E := hid (show canM ⟨fr, to_, back, cnt, 0, sz, al, false, tm, vals, lo, hi⟩ = true from decide_eq_true ⟨fun _ => rfl, fun h => absurd rfl h⟩)
      go_enter Tryz.func219, Tryz.ntmps219
      go_wp2
      go_ret
      exact ⟨ret_bool E.out.symm, HB.out _⟩
    · have E := hid (show canM ⟨fr, to_, back, cnt, 0, sz, al, true, tm, vals, lo, hi⟩ = false from decide_eq_false (fun h => by have := h.1 rfl; simp at this))
      go_enter Tryz.func219, Tryz.ntmps219
      go_wp2
      go_ret
      exact ⟨ret_bool E.out.symm, HB.out _⟩
  · have E := hid (show canM ⟨fr, to_, back, cnt, kd, sz, al, emp, tm, vals, lo, hi⟩ = canF kd sz al from by
      unfold canM canF
      simp [hk])
    have tk : (kd == 0) = false := beq_eq_false_iff_ne.2 hk
    clear hk
    go_enter Tryz.func219, Tryz.ntmps219
    go_wp2_with fail
    refine (canfold_any kd sz al _).mono ?_
    rintro e w' ⟨rfl, rfl⟩
    generalize canF kd sz al = r at *
    go_wp2
    go_ret
    exact ⟨ret_bool E.out.symm, HB.out _⟩
def errR (q : Qry) : Int := if rightQ q then 0 else 1
theorem errR_of {q : Qry} (h1 : 0 ≤ q.cnt) (h2 : q.tm.length ≤ 32) : errR q = if canM q = true then 0 else 1 := by
  by_cases h : (q.kd = 0 → q.emp = false) ∧ (q.kd ≠ 0 → (1 ≤ q.kd ∧ q.kd ≤ 7) ∧ rightB q.sz q.al)
  · rw [show canM q = true from decide_eq_true h]
    exact if_pos ⟨h1, h2, h⟩
  · rw [show canM q = false from decide_eq_false h]
    exact if_neg (fun g => h g.2.2)
theorem right_any (q : Qry) (a : Option Addr) (n c : Nat) (w : World) (hn : q.tm.length = n) (hm : n ≤ 9223372036854775807) :
    Calls Tryz.prog 147 #[qv q a n c] w fun e w' => e = .returned (.int .i64 (errR q)) ∧ Below w.heap.size w w' := by
  have HB := hid (show ∀ o, Below w.heap.size w (w.alloc o) from fun o => (Below.refl _ _).alloc (Nat.le_refl _) o)
  by_cases h1 : 0 ≤ q.cnt
  · by_cases h2 : n ≤ 32
    · have E := hid (errR_of h1 (by omega))
      have HM := hid (fun W => canmake_any q a n c W)
      generalize errR q = er at *
      generalize canM q = cm at *
      clear hn
      have h2' : ¬ (32 : Int) < (n : Int) := by omega
      unfold qv at *
      go_enter Tryz.func147, Tryz.ntmps147
      go_wp2_with fail
      refine (HM.out _).mono ?_
      rintro e W2 ⟨rfl, b2⟩
      have B2 := (HB.out _).trans (b2.mono (HB.out _).size)
      clear b2
      cases cm
      · have E2 := hid (show er = 1 from by rw [E.out]; rfl)
        clear E
        go_wp2
        go_ret
        exact ⟨ret_int E2.out.symm, B2⟩
      · have E2 := hid (show er = 0 from by rw [E.out]; rfl)
        clear E
        go_wp2
        go_ret
        exact ⟨ret_int E2.out.symm, B2⟩
    · have E := hid (show errR q = 1 from if_neg (fun g => h2 (by have := g.2.1; omega)))
      have h2' : (32 : Int) < (n : Int) := by omega
      generalize errR q = er at *
      clear hn
      unfold qv
      go_enter Tryz.func147, Tryz.ntmps147
      go_wp2
      go_ret
      exact ⟨ret_int E.out.symm, HB.out _⟩
  · have E := hid (show errR q = 1 from if_neg (fun g => h1 g.1))
    generalize errR q = er at *
    clear hn
    unfold qv
    go_enter Tryz.func147, Tryz.ntmps147
    go_wp2
    go_ret
    exact ⟨ret_int E.out.symm, HB.out _⟩
theorem pass_any (q : Qry) (a : Option Addr) (n c : Nat) (x : Int × Int) (w : World) (h : IntAt w a n c q.tm) :
    Calls Tryz.prog 222 #[qv q a n c, .agg #[.int .i64 x.1, .int .i64 x.2]] w fun e w' => e = .returned (.bool (passB q x)) ∧ Below w.heap.size w w' := by
  have HB := hid (show ∀ o o', Below w.heap.size w ((w.alloc o).alloc o') from fun o o' => ((Below.refl _ _).alloc (Nat.le_refl _) o).alloc (by simp) o')
  have HS := hid (show ∀ W, Below w.heap.size w W → IntAt W a n c q.tm from fun W hW => h.keep hW)
  have hn := h.1
  have hn2 := h.2.2.1
  obtain ⟨t, v⟩ := x
  clear h
  cases h1 : inQ q.fr q.to t
  · have E := hid (show passB q (t, v) = false from by unfold passB; simp only; rw [h1]; rfl)
    have H1 := hid h1
    clear h1
    unfold qv
    go_enter Tryz.func222, Tryz.ntmps222
    go_wp2_with fail
    refine (within_any _ _ _ _).mono ?_
    rintro e w' ⟨rfl, rfl⟩
    rw [H1.out]
    go_wp2
    go_ret
    exact ⟨ret_bool E.out.symm, HB.out _ _⟩
  · by_cases hz : n = 0
    · subst hz
      cases hv : q.vals
      · have E := hid (show passB q (t, v) = true from by unfold passB; simp only; rw [h1, hv, hn]; rfl)
        have H1 := hid h1
        clear h1 hn
        unfold qv
        rw [hv]
        clear hv
        go_enter Tryz.func222, Tryz.ntmps222
        go_wp2_with fail
        refine (within_any _ _ _ _).mono ?_
        rintro e w' ⟨rfl, rfl⟩
        rw [H1.out]
        go_wp2
        go_ret
        exact ⟨ret_bool E.out.symm, HB.out _ _⟩
      · have E := hid (show passB q (t, v) = inQ q.lo q.hi v from by unfold passB; simp only; rw [h1, hv, hn]; simp)
        have H1 := hid h1
        clear h1 hn
        unfold qv
        rw [hv]
        clear hv
        go_enter Tryz.func222, Tryz.ntmps222
        go_wp2_with fail
        refine (within_any _ _ _ _).mono ?_
        rintro e w' ⟨rfl, rfl⟩
        rw [H1.out]
        go_wp2_with fail
        refine (within_any _ _ _ _).mono ?_
        rintro e w' ⟨rfl, rfl⟩
        obtain ⟨r, hr⟩ : ∃ r, inQ q.lo q.hi v = r := ⟨_, rfl⟩
        rw [hr]
        have HRR := hid hr
        clear hr
        go_wp2
        go_ret
        exact ⟨ret_bool (by rw [E.out, HRR.out]), HB.out _ _⟩
    · have hz' : ((n : Int) == 0) = false := beq_eq_false_iff_ne.2 (by omega)
      have hz2 : decide (q.tm.length = 0) = false := decide_eq_false (by omega)
      cases hc : q.tm.contains t
      · have E := hid (show passB q (t, v) = false from by unfold passB; simp only; rw [hz2, hc]; simp)
        have H1 := hid h1
        have HC := hid hc
        clear h1 hz2 hc hn
        unfold qv
        go_enter Tryz.func222, Tryz.ntmps222
        go_wp2_with fail
        refine (within_any _ _ _ _).mono ?_
        rintro e w' ⟨rfl, rfl⟩
        rw [H1.out]
        go_wp2_with fail
        refine (contains_any a n c q.tm t _ (HS.out _ (HB.out _ _))).mono ?_
        rintro e w' ⟨rfl, rfl⟩
        rw [HC.out]
        go_wp2
        go_ret
        exact ⟨ret_bool E.out.symm, HB.out _ _⟩
      · cases hv : q.vals
        · have E := hid (show passB q (t, v) = true from by unfold passB; simp only; rw [h1, hv, hc]; simp)
          have H1 := hid h1
          have HC := hid hc
          clear h1 hz2 hc hn
          unfold qv
          rw [hv]
          clear hv
          go_enter Tryz.func222, Tryz.ntmps222
          go_wp2_with fail
          refine (within_any _ _ _ _).mono ?_
          rintro e w' ⟨rfl, rfl⟩
          rw [H1.out]
          go_wp2_with fail
          refine (contains_any a n c q.tm t _ (HS.out _ (HB.out _ _))).mono ?_
          rintro e w' ⟨rfl, rfl⟩
          rw [HC.out]
          go_wp2
          go_ret
          exact ⟨ret_bool E.out.symm, HB.out _ _⟩
        · have E := hid (show passB q (t, v) = inQ q.lo q.hi v from by unfold passB; simp only; rw [h1, hv, hc]; simp)
          have H1 := hid h1
          have HC := hid hc
          clear h1 hz2 hc hn
          unfold qv
          rw [hv]
          clear hv
          go_enter Tryz.func222, Tryz.ntmps222
          go_wp2_with fail
          refine (within_any _ _ _ _).mono ?_
          rintro e w' ⟨rfl, rfl⟩
          rw [H1.out]
          go_wp2_with fail
          refine (contains_any a n c q.tm t _ (HS.out _ (HB.out _ _))).mono ?_
          rintro e w' ⟨rfl, rfl⟩
          rw [HC.out]
          go_wp2_with fail
          refine (within_any _ _ _ _).mono ?_
          rintro e w' ⟨rfl, rfl⟩
          obtain ⟨r, hr⟩ : ∃ r, inQ q.lo q.hi v = r := ⟨_, rfl⟩
          rw [hr]
          have HRR := hid hr
          clear hr
          go_wp2
          go_ret
          exact ⟨ret_bool (by rw [E.out, HRR.out]), HB.out _ _⟩
end Go.Proofs.YtmifpfojhlmbkaaGreat
