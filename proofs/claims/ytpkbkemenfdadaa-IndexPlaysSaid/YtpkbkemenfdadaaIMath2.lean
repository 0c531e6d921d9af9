/-
  Plain facts of layer 9's laws: labels counted by their names.
-/
import Derived.Test.YtpkbkemenfdadaaIMath
namespace Go.Proofs.Ytpkbkemenfdadaa
set_option linter.unusedVariables false
set_option linter.unusedSimpArgs false

/-- Names that hold all names of the first j keys, and of k labels of the next one. -/
structure Cov (E : List Ent) (j : Nat) (l : List Lb) (o : List Tx) : Prop where
  ss : SS o
  short : ∀ x ∈ o, x.length ≤ 64
  all : ∀ p ∈ E.take j, ∀ k ∈ keysL p.2, k ∈ o
  here : ∀ k ∈ keysL l, k ∈ o
theorem Cov.zero (E : List Ent) : Cov E 0 [] [] := ⟨ss_nil, by simp, by simp, by simp [keysL]⟩
theorem Cov.ins {E : List Ent} {j : Nat} {l : List Lb} {o : List Tx} {x v : Tx} (h : Cov E j l o) (hx : x.length ≤ 64) : Cov E j (l ++ [(x, v)]) (insS x o) :=
  ⟨insS_ss h.ss, fun y hy => by rcases mem_insS.1 hy with e | e; · rw [e]; exact hx
                                · exact h.short y e,
   fun p hp k hk => mem_insS.2 (.inr (h.all p hp k hk)), fun k hk => by
    simp only [keysL, List.map_append, List.mem_append, List.map_cons, List.map_nil, List.mem_singleton] at hk
    rcases hk with hk | hk
    · exact mem_insS.2 (.inr (h.here k hk))
    · exact mem_insS.2 (.inl hk)⟩
theorem Cov.next {E : List Ent} {j : Nat} {o : List Tx} (hj : j < E.length) (h : Cov E j E[j].2 o) : Cov E (j + 1) [] o :=
  ⟨h.ss, h.short, fun p hp k hk => by
    rw [List.take_succ_eq_append_getElem hj] at hp
    rcases List.mem_append.1 hp with hp | hp
    · exact h.all p hp k hk
    · rw [List.mem_singleton] at hp
      subst hp; exact h.here k hk, by simp [keysL]⟩
theorem with_cons (p : Ent) (E : List Ent) (n : Tx) : (withE (p :: E) n).length = (if n ∈ keysL p.2 then 1 else 0) + (withE E n).length := by
  have e : ∀ L : List Ent, (withE L n).length = (L.filter fun p => decide (n ∈ keysL p.2)).length := fun L => by unfold withE; rw [show ∀ M : List Ent, (keysL M).length = M.length from fun M => by unfold keysL; rw [List.length_map]]
  rw [e, e]
  by_cases h : n ∈ keysL p.2
  · rw [List.filter_cons_of_pos (p := fun p : Ent => decide (n ∈ keysL p.2)) (decide_eq_true h), if_pos h, List.length_cons]; omega
  · rw [List.filter_cons_of_neg (by simp [h]), if_neg h]; omega
def cntW (E : List Ent) (o : List Tx) : Nat := (o.map fun n => (withE E n).length).sum
theorem cnt_cons (p : Ent) (E : List Ent) : ∀ o : List Tx, cntW (p :: E) o = (o.filter fun n => decide (n ∈ keysL p.2)).length + cntW E o
  | [] => rfl
  | n :: o => by
    have ih := cnt_cons p E o
    unfold cntW at *
    rw [List.map_cons, List.sum_cons, ih, with_cons, List.map_cons, List.sum_cons]
    by_cases h : n ∈ keysL p.2
    · rw [List.filter_cons_of_pos (p := fun n => decide (n ∈ keysL p.2)) (decide_eq_true h), if_pos h, List.length_cons]; omega
    · rw [List.filter_cons_of_neg (by simp [h]), if_neg h]; omega
theorem sum_zero : ∀ o : List Tx, (o.map fun _ => 0).sum = 0
  | [] => rfl
  | _ :: o => by rw [List.map_cons, List.sum_cons, sum_zero o]
theorem cnt_all {o : List Tx} (ho : o.Nodup) : ∀ E : List Ent, (∀ p ∈ E, (keysL p.2).Nodup) → (∀ p ∈ E, ∀ k ∈ keysL p.2, k ∈ o) → cntW E o = sizeE E
  | [], _, _ => by
    exact sum_zero o
  | p :: E, h, h2 => by
    rw [cnt_cons, cnt_all ho E (fun q hq => h q (List.mem_cons_of_mem _ hq)) (fun q hq => h2 q (List.mem_cons_of_mem _ hq))]
    have h1 : (o.filter fun n => decide (n ∈ keysL p.2)).length = p.2.length := by
      have e1 := len_le_of (a := o.filter fun n => decide (n ∈ keysL p.2)) (b := keysL p.2) (ho.filter _) (fun x hx => of_decide_eq_true (List.mem_filter.1 hx).2)
      have e2 := len_le_of (a := keysL p.2) (b := o.filter fun n => decide (n ∈ keysL p.2)) (h p (by simp)) (fun x hx => List.mem_filter.2 ⟨h2 p (by simp) x hx, decide_eq_true hx⟩)
      have e3 : (keysL p.2).length = p.2.length := by unfold keysL; rw [List.length_map]
      omega
    unfold sizeE
    rw [h1, List.map_cons, List.sum_cons]
theorem cnt_snoc {E : List Ent} {o : List Tx} {j : Nat} (h : j < o.length) : cntW E (o.take (j + 1)) = cntW E (o.take j) + (withE E o[j]).length := by
  rw [List.take_succ_eq_append_getElem h]
  unfold cntW
  rw [List.map_append, List.sum_append]; simp
theorem keysL_at {E : List Ent} {j : Nat} (h : j < E.length) : (keysL E).getD j [] = E[j].1 := by
  unfold keysL
  rw [List.getD_eq_getElem?_getD, List.getElem?_map, List.getElem?_eq_getElem h]; rfl
theorem look_at {E : List Ent} (hs : SS (keysL E)) {j : Nat} (h : j < E.length) : look E E[j].1 = some E[j].2 := mem_look (ssG_nodup hs) (List.getElem_mem h)

end Go.Proofs.Ytpkbkemenfdadaa
