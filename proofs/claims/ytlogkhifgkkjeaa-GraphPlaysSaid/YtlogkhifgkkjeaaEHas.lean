/-
  Contracts of sets.Has; of the document's Below, Right, Has, Same; of the law's light.
-/
import Derived.Test.YtlogkhifgkkjeaaERead
namespace Go.Proofs.Ytlogkhifgkkjeaa
open Go.RowKit
set_option linter.unusedVariables false
set_option linter.unusedSimpArgs false


/-! The document's. -/
theorem lt_app (p a b : Tx) : p ++ a < p ++ b ↔ a < b := by
  induction p with
  | nil => exact Iff.rfl
  | cons x p ih => rw [List.cons_append, List.cons_append, List.cons_lt_cons_iff, ih]; simp [UInt8.lt_irrefl]
theorem below_hit {x y : Tx} {j : Nat} {c d : UInt8} (hx : x[j]? = some c) (hy : y[j]? = some d) (h : x.take j = y.take j) (hne : c ≠ d) : x < y ↔ c < d := by
  obtain ⟨lx, ex⟩ := List.getElem?_eq_some_iff.1 hx
  obtain ⟨ly, ey⟩ := List.getElem?_eq_some_iff.1 hy
  have e1 : x = y.take j ++ c :: x.drop (j + 1) := by
    rw [← h, ← ex, ← List.drop_eq_getElem_cons lx, List.take_append_drop]
  have e2 : y = y.take j ++ d :: y.drop (j + 1) := by
    rw [← ey, ← List.drop_eq_getElem_cons ly, List.take_append_drop]
  have e3 : (x < y) = (y.take j ++ c :: x.drop (j + 1) < y.take j ++ d :: y.drop (j + 1)) := by rw [← e1, ← e2]
  rw [e3, lt_app, List.cons_lt_cons_iff]
  simp [hne]
theorem below_end {x y : Tx} {j : Nat} (hx : j ≤ x.length) (hy : j ≤ y.length) (h : x.take j = y.take j) (he : j = x.length ∨ j = y.length) : x < y ↔ x.length < y.length := by
  have e3 : (x < y) = (y.take j ++ x.drop j < y.take j ++ y.drop j) := by rw [List.take_append_drop, ← h, List.take_append_drop]
  rw [e3, lt_app]
  rcases he with e | e
  · rw [List.drop_of_length_le (show x.length ≤ j by omega)]
    cases hd : y.drop j with
    | nil => have := congrArg List.length hd; simp at this; constructor
             · intro k; exact absurd k (List.lt_irrefl _)
             · intro k; omega
    | cons u v => have := congrArg List.length hd; simp at this; constructor
                  · intro _; omega
                  · intro _; exact List.nil_lt_cons u v
  · rw [List.drop_of_length_le (show y.length ≤ j by omega)]
    constructor
    · intro k; exact absurd k (List.not_lt_nil _)
    · intro k; omega
theorem get_bs (x : Tx) (j : Nat) (h : j < (bs x).size) : x[j]? = some (bs x)[j] := by
  have h2 : j < x.length := by rw [← bs_size]; exact h
  rw [List.getElem?_eq_getElem h2]
  simp [bs, ByteArray.getElem_eq_getElem_data]
theorem u8_lt (a b : UInt8) : ((a.toNat : Int) < (b.toNat : Int)) ↔ a < b := by
  rw [Int.ofNat_lt, UInt8.lt_iff_toNat_lt]
set_option maxHeartbeats 1600000 in
theorem rbelow_any (x y : Tx) (w : World) (hx : x.length ≤ 9223372036854775807) (hy : y.length ≤ 9223372036854775807) :
    Calls Try.prog 50 #[.string (bs x), .string (bs y)] w fun e w' => e = .returned (.bool (decide (x < y))) ∧ Drew w w' := by
  obtain ⟨s, hs⟩ : ∃ s, s = bs x := ⟨_, rfl⟩
  obtain ⟨u, hu⟩ : ∃ u, u = bs y := ⟨_, rfl⟩
  have ex : s.size = x.length := by rw [hs, bs_size]
  have ey : u.size = y.length := by rw [hu, bs_size]
  have gx : Hid (∀ j (h : j < s.size), x[j]? = some s[j]) := Lib.hid (fun j h => by subst hs; exact get_bs x j h)
  have gy : Hid (∀ j (h : j < u.size), y[j]? = some u[j]) := Lib.hid (fun j h => by subst hu; exact get_bs y j h)
  rw [← hs, ← hu]
  clear hs hu
  obtain ⟨m, hm⟩ : ∃ m, s.size = m := ⟨_, rfl⟩
  obtain ⟨n, hn⟩ : ∃ n, u.size = n := ⟨_, rfl⟩
  have EX := Lib.hid (show x.length = m by omega)
  have EY := Lib.hid (show y.length = n by omega)
  have hm2 : m ≤ 9223372036854775807 := by omega
  have hn2 : n ≤ 9223372036854775807 := by omega
  clear ex ey hx hy
  go_enter Try.func50, Try.ntmps50
  go_wp2
  go_loopw [5] (fun i wr => ∃ j : Nat, j ≤ m ∧ j ≤ n ∧ i = .int .i64 (j : Int) ∧ Hid (x.take j = y.take j) ∧ Drew w wr) (fun i _ => m - (intOf i).toNat)
  case atStart => exact ⟨0, Nat.zero_le _, Nat.zero_le _, rfl, Lib.hid (by simp), 0, rfl⟩
  case round =>
    obtain ⟨j, hj, hj2, rfl, HT, hd⟩ := hrel
    by_cases hjm : j < m
    · by_cases hjn : j < n
      · have h1 : j < s.size := by omega
        have h2 : j < u.size := by omega
        have e1 := gx.out j h1
        have e2 := gy.out j h2
        by_cases he : s[j] = u[j]
        · have tb : ((s[j].toNat : Int) != (u[j].toNat : Int)) = false := by rw [bne_eq_false_iff_eq, he]
          have HN := Lib.hid (show x.take (j + 1) = y.take (j + 1) from by
            rw [List.take_add_one, List.take_add_one, HT.out, e1, e2, he])
          clear e1 e2 he HT
          go_wp2
          go_quiet (fail)
          go_wp2
          go_roundw
          case rel => exact ⟨j + 1, by omega, by omega, by go_num, HN, by obtain ⟨m, rfl⟩ := hd; first | exact ⟨_, World.drewN_drewN ..⟩ | exact ⟨m, rfl⟩⟩
          case measure => simp [intOf]; omega
        · have tb : ((s[j].toNat : Int) != (u[j].toNat : Int)) = true := by
            rw [bne_iff_ne]; intro e; exact he (UInt8.toNat_inj.1 (by omega))
          have HN := Lib.hid (show decide (x < y) = decide (s[j].toNat < u[j].toNat) from by
            rw [decide_eq_decide, ← UInt8.lt_iff_toNat_lt]
            exact below_hit e1 e2 HT.out he)
          clear e1 e2 he HT
          go_wp2
          go_quiet (fail)
          go_wp2
          go_quiet (fail)
          go_wp2
          go_ret
          exact ⟨ret_bool HN.out.symm, by obtain ⟨m, rfl⟩ := hd; exact ⟨_, by rw [World.drewN_drewN, World.drewN_drewN]⟩⟩
      · have HN := Lib.hid (show decide (x < y) = decide (m < n) from by
          rw [decide_eq_decide, below_end (j := j) (by rw [EX.out]; omega) (by rw [EY.out]; omega) HT.out (.inr (by rw [EY.out]; omega)), EX.out, EY.out])
        clear HT
        go_wp2
        go_ret
        exact ⟨ret_bool HN.out.symm, hd⟩
    · have HN := Lib.hid (show decide (x < y) = decide (m < n) from by
        rw [decide_eq_decide, below_end (j := j) (by rw [EX.out]; omega) (by rw [EY.out]; omega) HT.out (.inl (by rw [EX.out]; omega)), EX.out, EY.out])
      clear HT
      go_wp2
      go_ret
      exact ⟨ret_bool HN.out.symm, hd⟩

/-- A contract that only draws, inside a region that draws. -/
theorem quietD {f : FuncId} {args : Array Value} {w : World} {k : Nat} {v : Value} (h : Calls Try.prog f args (w.drewN k) fun e w' => e = .returned v ∧ Drew (w.drewN k) w') :
    Calls Try.prog f args (w.drewN k) fun e w' => e = .returned v ∧ ∃ m, w' = w.drewN m := h.mono fun _ _ p => ⟨p.1, by obtain ⟨m, e⟩ := p.2; exact ⟨_, by rw [e, World.drewN_drewN]⟩⟩
theorem Drew.bel {w w' : World} (h : Drew w w') : Below w.heap.size w w' := gb_below_none (h.gb none)
theorem Drew.trans {a b c : World} (h : Drew a b) (k : Drew b c) : Drew a c := by
  obtain ⟨m, rfl⟩ := h; obtain ⟨n, rfl⟩ := k; exact ⟨_, World.drewN_drewN ..⟩
/-- Texts that are none too long. -/
def Sh (l : List Tx) : Prop := ∀ x ∈ l, x.length ≤ 9223372036854775807
theorem Sh.at_ {l : List Tx} (h : Sh l) (j : Nat) : (l.getD j []).length ≤ 9223372036854775807 := by
  by_cases hj : j < l.length
  · rw [getD_get hj]; exact h _ (List.getElem_mem hj)
  · rw [List.getD_eq_getElem?_getD, List.getElem?_eq_none (by omega)]; simp


theorem take_no {l : List Tx} {x : Tx} {j : Nat} (h : j < l.length) (h1 : x ∉ l.take j) (h2 : l.getD j [] ≠ x) : x ∉ l.take (j + 1) := by
  rw [List.take_succ_eq_append_getElem h]
  intro hm
  rcases List.mem_append.1 hm with hm | hm
  · exact h1 hm
  · rw [List.mem_singleton] at hm
    apply h2
    rw [getD_get h]; exact hm.symm
theorem getD_in {l : List Tx} {j : Nat} (h : j < l.length) : l.getD j [] ∈ l := by rw [getD_get h]; exact List.getElem_mem h


/-- Does a list ask little? -/
def lightL (l : List Tx) : Prop := l.length ≤ 40 ∧ ∀ x ∈ l, x.length ≤ 100
instance (l : List Tx) : Decidable (lightL l) := inferInstanceAs (Decidable (_ ∧ _))
theorem lightL.sh {l : List Tx} (h : lightL l) : Sh l := fun x hx => by have := h.2 x hx; omega
theorem short_snoc {l : List Tx} {j : Nat} (hj : j < l.length) (h : ∀ x ∈ l.take j, x.length ≤ 100) (k : (l.getD j []).length ≤ 100) : ∀ x ∈ l.take (j + 1), x.length ≤ 100 := by
  rw [List.take_succ_eq_append_getElem hj]
  intro x hx
  rcases List.mem_append.1 hx with hx | hx
  · exact h x hx
  · rw [List.mem_singleton] at hx
    rw [hx, ← getD_get hj]; exact k

end Go.Proofs.Ytlogkhifgkkjeaa
