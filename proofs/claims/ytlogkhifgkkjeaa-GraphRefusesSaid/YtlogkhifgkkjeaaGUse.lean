/-
  Two graphs that are apart; rows handed to Plain and Same.
-/
import Derived.Test.YtlogkhifgkkjeaaGOwn
import Derived.Test.YtlogkhifgkkjeaaGRef4
namespace Go.Proofs.Ytlogkhifgkkjeaa
open Go.RowKit
set_option linter.unusedVariables false
set_option linter.unusedSimpArgs false

/-- Two graphs apart. -/
structure Apart (x : Nat) (F : Nat → Prop) (y : Nat) (G : Nat → Prop) : Prop where
  ff : ∀ i, F i → ¬ G i
  gx : ¬ G x
  fy : ¬ F y
theorem Apart.symm {x y : Nat} {F G : Nat → Prop} (h : Apart x F y G) : Apart y G x F := ⟨fun i g f => h.ff i f g, h.fy, h.gx⟩
theorem Apart.turn {base : Nat} {w0 w w' : World} {x bi bf y ci cf : Nat} {F F' G : Nat → Prop} {L' M : List Ru} (h : Apart x F y G) (t : GrTurn w w' x bi bf F F' L') (g : GOwn base w0 w y ci cf G M) : Apart x F' y G :=
  ⟨fun i f k => (t.ext i f).elim (fun q => h.ff i q k) (fun q => by have := g.gr.lt i k; omega), h.gx, t.out g.gr.xlt h.fy⟩
theorem Apart.keepG {base : Nat} {w0 w w' : World} {x bi bf y ci cf : Nat} {F F' G : Nat → Prop} {L L' M : List Ru} (h : Apart x F y G) (t : GrTurn w w' x bi bf F F' L') (g : GOwn base w0 w y ci cf G M) (f : GOwn base w0 w x bi bf F L) : GOwn base w0 w' y ci cf G M :=
  g.tu t.tu h.fy (fun i k q => h.ff i q k) f.fb
/-- A row off one graph, when another turns. -/
theorem RowO.other {τ : TypeId} {w w' : World} {y ci cf : Nat} {F G G' : Nat → Prop} {M' l : List Ru} {v : Value} (h : RowO τ F w v l) (hg : ∀ k, v.ownBlock = some k → ¬ G k) (t : GrTurn w w' y ci cf G G' M') : RowO τ F w' v l :=
  ⟨h.row.tu t.tu (fun g k => hg g k), h.off⟩

theorem ocopy {base : Nat} {w0 w : World} {x bi bf : Nat} {F : Nat → Prop} {L : List Ru} (h : GOwn base w0 w x bi bf F L) (hL : L.length ≤ 1000) :
    Calls Try.prog 19 #[.pointer (some ⟨x, 0, none⟩)] w fun e w' => ∃ y ci cf G, e = .returned (.pointer (some ⟨y, 0, none⟩)) ∧ GOwn base w0 w' y ci cf G L ∧ Below w.heap.size w w' ∧ Apart x F y G ∧ w.heap.size ≤ y ∧ ∀ i, G i → w.heap.size ≤ i :=
  (gcopy_ok w x bi bf F L h.gr hL).mono fun e w' ⟨y, ci, cf, G, e, g, b, hy, hG⟩ =>
    ⟨y, ci, cf, G, e, GOwn.new h.bel h.sz g b hy hG, b, ⟨fun i f k => by have h1 := h.gr.lt i f; have h2 := hG i k; omega, fun k => by have h1 := h.gr.xlt; have h2 := hG x k; omega, fun f => by have h1 := h.gr.lt y f; omega⟩, hy, hG⟩

theorem plainO {base : Nat} {w : World} {v : Value} {l : List Ru} (h : URow 31 w base v l) (hl : l.length ≤ 1000) :
    Calls Try.prog 23 #[v] w fun e w' => ∃ v', e = .returned v' ∧ URow 38 w' w.heap.size v' l ∧ Below w.heap.size w w' := by
  obtain ⟨a, cap, rfl, hr, _⟩ := h.shape
  exact plain11_any a l.length cap l w hr hl
theorem sameO {b1 b2 : Nat} {w : World} {v1 v2 : Value} {l1 l2 : List Ru} (h1 : URow 38 w b1 v1 l1) (h2 : URow 38 w b2 v2 l2) :
    Calls Try.prog 22 #[v1, v2] w fun e w' => e = .returned (.bool (decide (l1 = l2))) ∧ Below w.heap.size w w' := by
  obtain ⟨a1, c1, rfl, r1, _⟩ := h1.shape
  obtain ⟨a2, c2, rfl, r2, _⟩ := h2.shape
  exact same11_any a1 a2 _ _ c1 c2 l1 l2 w r1 r2

theorem BoxO.other {τ : TypeId} {w w' : World} {y ci cf : Nat} {F G G' : Nat → Prop} {M' : List Ru} {B : Nat} {r : Ru} (h : BoxO τ F w B r) (hg : ¬ G B) (t : GrTurn w w' y ci cf G G' M') : BoxO τ F w' B r :=
  ⟨h.box.tu t.tu hg, h.off⟩
theorem olight (r : Ru) (w : World) : Calls Try.prog 11 #[ruV r] w fun e w' => e = .returned (.bool (decide (lightU r))) ∧ Below w.heap.size w w' := light11_any r w

/-! Facts of adding once more. -/
theorem add_same {L : List Ru} {r : Ru} (h : addE L r ≠ 0) : addE (addU L r) r = addE L r ∧ addU L r = L := by
  have e := addU_no h
  exact ⟨by rw [e], e⟩
theorem add_twice {L : List Ru} {r : Ru} (g : GoodU L) (h : addE L r = 0) : addE (addU L r) r = 6 := by
  have hr := (addE_ok.1 h).1
  rw [addU_yes h]
  have e : intoL (insU r L) r.dst = some r := by rw [into_ins g h, if_pos rfl]
  rw [addE_is, if_neg (by rw [decide_eq_true hr]; simp), if_pos (by rw [e]; rfl)]
theorem add_len {L : List Ru} {r : Ru} (h : addE L r = 0) : (addU L r).length = L.length + 1 := by rw [addU_yes h, insU_len]
theorem add_drop {L : List Ru} {r : Ru} (g : GoodU L) (h : addE L r = 0) : dropE (addU L r) r.src r.dst = 0 ∧ dropR (addU L r) r.src r.dst = r ∧ dropU (addU L r) r.src r.dst = L ∧ intoL (addU L r) r.dst = some r := by
  rw [addU_yes h]
  have e : intoL (insU r L) r.dst = some r := by rw [into_ins g h, if_pos rfl]
  obtain ⟨h1, h2, h3⟩ := drop_hit (s := r.src) e rfl
  refine ⟨h1, h2, ?_, e⟩
  rw [h3]
  have hn := into_none.1 (addE_ok.1 h).2.1
  have gi := (g.ins h).ord
  refine ah_ext (gi.filter _) g.ord (fun p => ?_)
  rw [mem_outU, mem_insU]
  constructor
  · rintro ⟨q | q, k⟩
    · exact absurd q k
    · exact q
  · intro q
    exact ⟨.inr q, fun k => hn p q (by rw [k])⟩
theorem gone_into (L : List Ru) (k : Tx) : intoL (goneL L k) k = none := into_none.2 fun _ hp => (mem_goneL.1 hp).2.2
theorem gone_of (L : List Ru) (k : Tx) : ofL (goneL L k) k = [] := ofL_nil.2 fun _ hp => (mem_goneL.1 hp).2.1
theorem gone_again (L : List Ru) (k : Tx) : goneL (goneL L k) k = goneL L k := by
  unfold goneL; rw [List.filter_filter]; congr 1; funext x; simp
theorem gone_again0 (L : List Ru) (k : Tx) : goneN (goneL L k) k = 0 := by
  unfold goneN; rw [gone_again]; omega
theorem gone_sum (L : List Ru) (k : Tx) : L.length = (goneL L k).length + goneN L k := by
  have := goneL_le L k
  unfold goneN; omega

end Go.Proofs.Ytlogkhifgkkjeaa
