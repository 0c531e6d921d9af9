/-
  Contracts of filter.picks, and of slices.IndexFunc, ContainsFunc of terms that it picks.
-/
import Derived.Test.YtifjbbiphekmmaaGreatDoorFMatch
namespace Go.Proofs.YtifjbbiphekmmaaGreatDoor
open Go.RowKit Go.Shelf Go.Lib
set_option linter.unusedVariables false
set_option linter.unusedSimpArgs false

def encTm (x : TmT) : List Value := [.string (bs x.name), .bool x.neg, .slice x.a x.n x.c]
def pickN (x : TmT) : Bool := !x.neg && decide (0 < x.n)
def pickT (t : Trm) : Bool := !t.2.1 && !t.2.2.isEmpty
theorem pick_same {w : World} {e : TmT} (h : TmOk w e) : pickN e = pickT e.trm := by
  have hl : e.l.length = e.n := h.1
  unfold pickN pickT TmT.trm
  congr 1
  cases hq : e.l with
  | nil => rw [hq] at hl; simp at hl; simp [← hl]
  | cons x r => rw [hq] at hl; simp at hl; simp; omega
theorem any_pick {w : World} {T : List TmT} (h : ∀ e ∈ T, TmOk w e) : T.any pickN = (trms T).any pickT := by
  unfold trms
  rw [List.any_map]
  induction T with
  | nil => rfl
  | cons x r ih =>
    rw [List.any_cons, List.any_cons, ih (fun e he => h e (List.mem_cons_of_mem _ he)), pick_same (h x List.mem_cons_self)]
    rfl
theorem idx_pick (T : List TmT) : (Lib.idxBy (fun _ y => pickN y) T default = -1 ∧ ∀ e ∈ T, pickN e = false) ∨ ∃ i, i < T.length ∧ Lib.idxBy (fun _ y => pickN y) T default = (i : Int) ∧ pickN (tmT T i) = true := by
  have gen : ∀ (T : List TmT) (k : Nat), (Lib.idxByFrom (fun _ y => pickN y) (default : TmT) T k = -1 ∧ ∀ e ∈ T, pickN e = false) ∨ ∃ i, i < T.length ∧ Lib.idxByFrom (fun _ y => pickN y) (default : TmT) T k = ((k + i : Nat) : Int) ∧ pickN (tmT T i) = true := by
    intro T
    induction T with
    | nil => intro k; exact .inl ⟨rfl, by simp⟩
    | cons x r ih =>
      intro k
      unfold Lib.idxByFrom
      by_cases h : pickN x = true
      · right
        exact ⟨0, by simp, by simp [h], by simpa [tmT] using h⟩
      · rcases ih (k + 1) with ⟨e1, e2⟩ | ⟨i, hi, e1, e2⟩
        · left
          refine ⟨by rw [if_neg h]; exact e1, fun e he => ?_⟩
          rcases List.mem_cons.1 he with rfl | he
          · simpa using h
          · exact e2 e he
        · right
          refine ⟨i + 1, by simp; omega, ?_, by simpa [tmT] using e2⟩
          rw [if_neg h, e1]; omega
  have := gen T 0
  simpa [Lib.idxBy] using this

theorem picks_any (e : TmT) (w : World) : Calls Tryz.prog 48 #[tmV e] w fun r w' => r = .returned (.bool (pickN e)) ∧ Below w.heap.size w w' := by
  obtain ⟨nm, ng, a, n, c, l⟩ := e
  unfold tmV pickN
  simp only
  have hz : decide ((0 : Int) < (n : Int)) = decide (0 < n) := decide_eq_decide.2 (by omega)
  have HZ := Lib.hid hz
  cases ng
  all_goals
    go_enter Tryz.func48, Tryz.ntmps48
    go_wp2
    go_ret
    exact ⟨ret_bool (by first | exact HZ.out | rfl | simp), (Below.refl _ _).alloc (Nat.le_refl _) _⟩
theorem predP (w : World) : PredBelow Tryz.prog 48 #[] (fun x => .agg (encTm x).toArray) pickN w := fun W x hb =>
  (show Calls Tryz.prog 48 (#[tmV x] ++ #[]) W fun e w' => e = .returned (.bool (pickN x)) ∧ Below w.heap.size w w' from
    (picks_any x W).mono fun r w' p => ⟨p.1, hb.trans (p.2.mono hb.size)⟩)

theorem tm_bang {l : List TmT} {j : Nat} (h : j < l.length) : l[j]! = tmT l j := by rw [getElem!_pos l j h]; exact (tm_get h).symm
theorem idxt_any (a : Option Addr) (n c : Nat) (T : List TmT) (w : World) (h : TmAt w a n c T) :
    Calls Tryz.prog 70 #[.slice a n c, .func (.func 48) #[] #[]] w fun e w' => e = .returned (.int .i64 (Lib.idxBy (fun _ y => pickN y) T default)) ∧ Below w.heap.size w w' := by
  have hl := h.1
  have h63 := h.2.2.1
  obtain ⟨_, _, _, h5⟩ := h
  rcases h5 with h0 | ⟨b, off, rfl, hlt, hc⟩
  · subst h0
    have : T = [] := List.eq_nil_of_length_eq_zero hl
    subst this
    clear hl h63
    go_enter Tryz.func70, Tryz.ntmps70
    go_wp2
    go_loopw [8] (fun i wr => i = .int .i64 0 ∧ w = wr) (fun _ _ => 0)
    case atStart => exact ⟨rfl, rfl⟩
    case round =>
      obtain ⟨rfl, rfl⟩ := hrel
      go_wp2
      go_ret
      exact ⟨rfl, Below.refl _ _⟩
  · have eg : ∀ args w, (callFunc 48 args).run Tryz.prog w = .ok (.enter 48 args) w := enters_of Tryz.func48 (by kernel_rfl) rfl
    have hcon := AnyQ.slices_IndexFunc (P := Tryz.prog) (ρ := sh_laysContainsTm_ren) { sh_laysContainsTm with } 3 Tryz.isAgg24 Tryz.sizeOf24 encTm (fun _ => rfl) pickN 48 #[] eg b off n c T w
      (predP w) (by omega) h63 hlt (fun j hj i v hi => by
        obtain ⟨c0, c1, c2⟩ := hc j (by omega)
        rw [tm_bang hj] at hi
        match i, hi with
        | 0, hi => simp [encTm] at hi; rw [← hi]; exact c0
        | 1, hi => simp [encTm] at hi; rw [← hi]; exact c1
        | 2, hi => simp [encTm] at hi; rw [← hi]; exact c2
        | i + 3, hi => simp [encTm] at hi)
    rw [List.take_of_length_le (by omega)] at hcon
    exact hcon
theorem cont_any (a : Option Addr) (n c : Nat) (T : List TmT) (w : World) (h : TmAt w a n c T) :
    Calls Tryz.prog 47 #[.slice a n c, .func (.func 48) #[] #[]] w fun e w' => e = .returned (.bool (T.any pickN)) ∧ Below w.heap.size w w' := by
  have HI := Lib.hid (idxt_any a n c T w h)
  have HR := Lib.hid (Lib.idxBy_nonneg_iff (fun _ y => pickN y) T (default : TmT))
  clear h
  generalize Lib.idxBy (fun _ y => pickN y) T default = r at *
  go_enter Tryz.func47, Tryz.ntmps47
  go_wp2_with fail
  refine HI.out.mono ?_
  rintro e w1 ⟨rfl, hb⟩
  go_wp2
  go_ret
  exact ⟨ret_bool (by first | exact HR.out | (rw [← HR.out])), hb⟩
end Go.Proofs.YtifjbbiphekmmaaGreatDoor
