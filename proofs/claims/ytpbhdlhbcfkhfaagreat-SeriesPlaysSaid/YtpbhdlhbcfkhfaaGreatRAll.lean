/-
  A range over a function whose body never leaves: a law of its own, over iterators that hand on all of a list, also those that range over others themselves, or lay lists of their own.
-/
import Derived.Test.YtpbhdlhbcfkhfaaGreatBase
import Derived.RangeFuncNested
import Derived.RangeFuncBound
import Derived.RangeFuncLeaves
import Derived.Shelf.Abstract
import Derived.WalkKit
import Derived.OwnWalkIn
import Derived.TacticsInMore
import Derived.LoopNIn
import Derived.LoopIn
import Derived.Lib.Hide
namespace Go.Proofs.YtpbhdlhbcfkhfaaGreat
open Go.RowKit Go.Shelf
set_option linter.unusedVariables false
set_option linter.unusedSimpArgs false

/-- What is not among some blocks is as it was, and not among them then. -/
structure KeepM (M : World → Nat → Prop) (W W' : World) : Prop where
  os : W'.os = W.os
  tape : W'.tape = W.tape
  output : W'.output = W.output
  size : W.heap.size ≤ W'.heap.size
  block : ∀ k, k < W.heap.size → ¬ M W k → W'.heap[k]? = W.heap[k]? ∧ ¬ M W' k
theorem KeepM.trans {M : World → Nat → Prop} {X Y Z : World} (h : KeepM M X Y) (k : KeepM M Y Z) : KeepM M X Z :=
  ⟨k.os.trans h.os, k.tape.trans h.tape, k.output.trans h.output, Nat.le_trans h.size k.size, fun i hi hm => by
    obtain ⟨h1, h2⟩ := h.block i hi hm
    obtain ⟨k1, k2⟩ := k.block i (Nat.lt_of_lt_of_le hi h.size) h2
    exact ⟨k1.trans h1, k2⟩⟩
theorem KeepM.below {M : World → Nat → Prop} {n₀ : Nat} {X Y : World} (h : KeepM M X Y) (hn : n₀ ≤ X.heap.size) (hM : ∀ k, k < n₀ → ¬ M X k) : Below n₀ X Y ∧ ∀ k, k < n₀ → ¬ M Y k :=
  ⟨⟨h.os, h.tape, h.output, h.size, fun k hk => (h.block k (by omega) (hM k hk)).1⟩, fun k hk => (h.block k (by omega) (hM k hk)).2⟩
/-- What a caller says of its own blocks: they are rows of cells; new ones are none of them, nor does a turn of what is no row of cells change them. -/
structure MineOk {α : Type} (B : Nat) (J : List α → World → Prop) (M : World → Nat → Prop) : Prop where
  new : ∀ pre X Y row k, J pre X → X.grownBy Y row → (∀ r, row = some r → B ≤ r ∧ ∃ o : Obj, X.heap[r]? = some o ∧ o.isCells = false) → M Y k → M X k
  own : ∀ pre X k, J pre X → M X k → ∃ o : Obj, X.heap[k]? = some o ∧ o.isCells = true
theorem MineOk.keep {α : Type} {B : Nat} {J : List α → World → Prop} {M : World → Nat → Prop} (h : MineOk B J M) {pre : List α} {X Y : World} (hJ : J pre X) (g : X.grownBy Y none) : KeepM M X Y :=
  ⟨g.os, g.tape, g.output, g.size, fun k hk hm => ⟨g.block k hk (by simp), fun e => hm (h.new pre X Y none k hJ g (fun r e => by cases e) e)⟩⟩

/-- The function value hands on all of xs, if each round goes on; it reads the blocks R, that are none of the caller's. -/
def SeqAll {α : Type} (g : Nat) (lb : Array Value) (encs : α → Array Value) (xs : List α) (R : Nat → Prop) (w : World) : Prop :=
  ∀ (l : Nat) (J : List α → World → Prop) (M : World → Nat → Prop) (W : World), Below w.heap.size w W → OwnFrom W.heap.size J → MineOk W.heap.size J M → (∀ k, R k → ¬ M W k) →
    (∀ m pre x rest W1, xs = pre ++ x :: rest → J pre W1 → YieldAt Fence.wide m Tryz.prog l (encs x) W1 fun e W' => e = .returned (.bool true) ∧ J (pre ++ [x]) W' ∧ KeepM M W1 W') →
    J [] W → Calls Tryz.prog g (#[.func (.yield l) #[] #[]] ++ lb) W fun e W' => (∃ v, e = .returned v) ∧ J xs W'

/-- How a round's body is left: it goes on. -/
def allPost {α : Type} (M : World → Nat → Prop) (I : List α → World → Prop) (xs : List α) (W : World) : Exit → Act → World → Prop
  | .normal, _, W' => KeepM M W W' ∧ I xs W'
  | _, _, _ => False

/-- One round. -/
theorem round_all {α : Type} {m l B : Nat} {r : Loop} {W : World} {args : Array Value} {pre xs : List α} (hl : W.heap[l]? = some (.loop r)) (hr : r.state = .ready) (hp : r.pending = none) (hsz : args.size = r.params.size) (hB : B ≤ l)
    (I : List α → World → Prop) (M : World → Nat → Prop) (hI : OwnFrom B I) (hM : MineOk B I M) (hi : I pre W) (Ax : Act → World → Prop) (hAx : ∀ a', OwnFrom B (fun (_ : Unit) W => Ax a' W))
    (hassign : ∀ K : Act → World → Prop, (∀ a' W', W.grownBy W' none → I pre W' → Ax a' W' → K a' W') →
      r.assign.wpIn (Fence.wide.inRound l) m Tryz.prog (Exit.then K (fun _ _ _ => False)) { tmps := (r.params.zip args).foldl (fun t (p, v) => t.setIfInBounds p v) r.tmps, defers := [] } W)
    (hbody : ∀ a' W', (∃ r', W'.heap[l]? = some (.loop r')) → I pre W' → Ax a' W' → r.body.wpIn (Fence.wide.inRound l) m Tryz.prog (allPost M I xs W') a' W') :
    YieldAt Fence.wide m Tryz.prog l args W fun e W' => e = .returned (.bool true) ∧ I xs W' ∧ KeepM M W W' := by
  refine ⟨r.fn, _, r.assign, r.body, run_yield hl hsz, roundIn_of_wpIn trivial (hassign _ ?_)⟩
  intro a' Wa ga ia xa
  have ka := hM.keep hi ga
  have la : Wa.heap[l]? = some (.loop r) := (ga.block l (heap_lt hl) (by simp)).trans hl
  have lta := (Array.getElem?_eq_some_iff.1 la).1
  refine ⟨_, run_beginRound la hr, ?_⟩
  have gb := grownBy_putObj' Wa l (.loop { r with state := .busy })
  have lb : (Wa.putObj l (.loop { r with state := .busy })).heap[l]? = some (.loop { r with state := .busy }) := World.putObj_heap_same lta
  have ib : I pre (Wa.putObj l (.loop { r with state := .busy })) := hI.putObj _ ia hB la rfl
  refine wpIn_mono (hbody a' _ ⟨_, lb⟩ ib ((hAx a').putObj (s := ()) _ xa hB la rfl)) ?_
  intro e a3 Wc hc
  cases e with
  | normal =>
    obtain ⟨kc, ic⟩ := hc
    have nb : ∀ k, ¬ M Wa k → ¬ M (Wa.putObj l (.loop { r with state := .busy })) k := fun k h e => h (hM.new pre Wa _ (some l) k ia gb (fun q hq => by cases hq; exact ⟨hB, _, la, rfl⟩) e)
    have ml : ¬ M Wa l := fun e => by
      obtain ⟨o, ho, hcells⟩ := hM.own pre Wa l ia e
      rw [la] at ho; cases ho; cases hcells
    have szb : (Wa.putObj l (.loop { r with state := .busy })).heap.size = Wa.heap.size := Nat.le_antisymm (by simp [World.putObj]) gb.size
    obtain ⟨lc, mc⟩ := kc.block l (by rw [szb]; exact lta) (nb l ml)
    rw [lb] at lc
    have ltc := (Array.getElem?_eq_some_iff.1 lc).1
    have gd := grownBy_putObj' Wc l (.loop r)
    have hend := run_endRound (P := Tryz.prog) none lc
    have e0 : ({ { r with state := LoopState.busy } with state := if (none : Option Code).isNone then LoopState.ready else LoopState.done, pending := none } : Loop) = r := by
      cases r; simp at hr hp; subst hr hp; rfl
    rw [e0] at hend
    have nd : ∀ k, ¬ M Wc k → ¬ M (Wc.putObj l (.loop r)) k := fun k h e => h (hM.new xs Wc _ (some l) k ic gd (fun q hq => by cases hq; exact ⟨hB, _, lc, rfl⟩) e)
    refine ⟨_, _, hend, rfl, hI.putObj _ ic hB lc rfl, ?_⟩
    refine ⟨gd.os.trans (kc.os.trans (gb.os.trans ka.os)), gd.tape.trans (kc.tape.trans (gb.tape.trans ka.tape)), gd.output.trans (kc.output.trans (gb.output.trans ka.output)), Nat.le_trans ka.size (Nat.le_trans gb.size (Nat.le_trans kc.size gd.size)), fun k hk hm => ?_⟩
    obtain ⟨a1, a2⟩ := ka.block k hk hm
    obtain ⟨c1, c2⟩ := kc.block k (by rw [szb]; exact Nat.lt_of_lt_of_le hk ka.size) (nb k a2)
    refine ⟨?_, nd k c2⟩
    by_cases hkl : k = l
    · subst hkl
      rw [World.putObj_heap_same ltc]; exact hl.symm
    · rw [World.putObj_heap_other hkl, c1, World.putObj_heap_other hkl]; exact a1
  | ret => exact hc.elim
  | exit id => exact hc.elim
  | goto t => exact hc.elim
  | panic ch => exact hc.elim
  | outgrown => exact hc.elim

/-- The statement, outside of other such loops. -/
theorem range_out {α : Type} {g : Operand} {ps : Array Tmp} {assign body : Code} {Q : Exit → Act → World → Prop} {a : Act} {w : World} {n : Nat}
    {gf : Nat} {lb : Array Value} (hg : a.eval g = .func (.func gf) #[] lb) (eg : ∀ args w, (callFunc gf args).run Tryz.prog w = .ok (.enter gf args) w)
    {encs : α → Array Value} {xs : List α} {R : Nat → Prop} {w0 : World} (hseq : SeqAll gf lb encs xs R w0) (hb0 : Below w0.heap.size w0 w) (hps : ∀ x, (encs x).size = ps.size)
    (I : List α → World → Prop) (M : World → Nat → Prop) (hI : OwnFrom w.heap.size I) (hM : MineOk w.heap.size I M) (hR : ∀ k, R k → ¬ M w k) (h0 : I [] w) (Ax : α → Act → World → Prop) (hAx : ∀ x a', OwnFrom w.heap.size (fun (_ : Unit) W => Ax x a' W))
    (hassign : ∀ (m l : Nat) (pre : List α) (x : α) (rest : List α) (W : World) (K : Act → World → Prop), xs = pre ++ x :: rest → I pre W → (∀ a' W', W.grownBy W' none → I pre W' → Ax x a' W' → K a' W') →
      assign.wpIn (Fence.wide.inRound l) m Tryz.prog (Exit.then K (fun _ _ _ => False)) { tmps := (ps.zip (encs x)).foldl (fun t (p, v) => t.setIfInBounds p v) a.tmps, defers := [] } W)
    (hbody : ∀ (m l : Nat) (pre : List α) (x : α) (rest : List α) (a' : Act) (W : World), xs = pre ++ x :: rest → w.heap.size ≤ l → (∃ r, W.heap[l]? = some (.loop r)) → I pre W → Ax x a' W →
      body.wpIn (Fence.wide.inRound l) m Tryz.prog (allPost M I (pre ++ [x]) W) a' W)
    (hdone : ∀ (D : Nat) (W : World), w.heap.size ≤ D → I xs W → W.heap[D]? = some (.deferred (some [])) → Q .normal { a with defers := { target := .collected D, args := #[] } :: a.defers } W) :
    (Code.rangeFunc g ps assign body).wpIn Fence.wide n Tryz.prog Q a w := by
  refine wpIn_rangeFunc fun fn _ => ?_
  obtain ⟨r, hr⟩ : ∃ r : Loop, r = { state := .ready, pending := none, fn, tmps := a.tmps, params := ps, assign, body, defers := w.heap.size } := ⟨_, rfl⟩
  obtain ⟨W1, hW1⟩ : ∃ W1, W1 = (w.alloc (.deferred (some []))).alloc (.loop r) := ⟨_, rfl⟩
  have B1 : Below w.heap.size w W1 := by rw [hW1]; exact ((Below.refl _ w).alloc (Nat.le_refl _) _).alloc (by simp) _
  have s1 : W1.heap.size = w.heap.size + 2 := by rw [hW1]; simp
  have l1 : W1.heap[w.heap.size + 1]? = some (.loop r) := by
    rw [hW1]
    have := World.alloc_heap_new (w.alloc (.deferred (some []))) (.loop r)
    rwa [World.size_alloc] at this
  have d1 : W1.heap[w.heap.size]? = some (.deferred (some [])) := by rw [hW1]; exact heap_old (heap_new w _)
  have i1 : I [] W1 := by rw [hW1]; exact hI.alloc _ (hI.alloc _ h0)
  refine ⟨w.heap.size + 1, [{ target := .collected w.heap.size, args := #[] }], W1, { target := .fn (.func gf) lb, args := #[.func (.yield (w.heap.size + 1)) #[] #[]] }, W1, gf, #[.func (.yield (w.heap.size + 1)) #[] #[]] ++ lb, W1, ?_, ?_, fun _ _ => trivial, ?_, fun h => by simp [Fence.wide] at h, ?_⟩
  · rw [hW1, hr]; exact run_enterLoop_outer _ _ _ _ _
  · simp only [resolve, hg]; simp [go_sem]
  · simp [invoke, go_sem, eg]
  · have nocells : ∀ pre X (o : Obj) k, I pre X → X.heap[k]? = some o → o.isCells = false → ¬ M X k := fun pre X o k hi hk ho e => by
      obtain ⟨o', ho', hc'⟩ := hM.own pre X k hi e
      rw [hk] at ho'; cases ho'; rw [ho] at hc'; cases hc'
    refine callsIn_wide.2 ((hseq (w.heap.size + 1) (fun pre W => I pre W ∧ W.heap[w.heap.size + 1]? = some (.loop r) ∧ W.heap[w.heap.size]? = some (.deferred (some []))) M W1 (hb0.trans (B1.mono hb0.size)) ?_ ?_ (fun k hk e => hR k hk (hM.new [] w W1 none k h0 (gb_below B1) (fun r e => by cases e) e)) ?_ ⟨i1, l1, d1⟩).mono ?_)
    · rintro pre X Y row ⟨hi, hl, hd⟩ hgr hrow
      refine ⟨hI pre X Y row hi hgr (fun q e => ⟨by have := (hrow q e).1; omega, (hrow q e).2⟩), ?_, ?_⟩
      · rw [hgr.block _ (heap_lt hl) (fun e => by have := (hrow _ e.symm).1; omega)]; exact hl
      · rw [hgr.block _ (heap_lt hd) (fun e => by have := (hrow _ e.symm).1; omega)]; exact hd
    · exact ⟨fun pre X Y row k hx hgr hrow hk => hM.new pre X Y row k hx.1 hgr (fun q e => ⟨by have := (hrow q e).1; omega, (hrow q e).2⟩) hk, fun pre X k hx hk => hM.own pre X k hx.1 hk⟩
    · rintro m pre x rest W hx ⟨hi, hl, hd⟩
      have hy := round_all (m := m) (B := w.heap.size) (xs := pre ++ [x]) (args := encs x) hl (by rw [hr]) (by rw [hr]) (by rw [hr]; exact hps x) (by omega) I M hI hM hi (Ax x) (hAx x)
        (fun K hK => by rw [hr]; exact hassign m _ pre x rest W K hx hi hK)
        (fun a' W' hl' hi' hx' => by rw [hr]; exact hbody m _ pre x rest a' W' hx (by omega) hl' hi' hx')
      obtain ⟨f', t', as', bo', e1, e2⟩ := hy
      refine ⟨f', t', as', bo', e1, e2.mono fun e W' ⟨h1, h2, h3⟩ => ⟨h1, ⟨h2, ?_, ?_⟩, h3⟩⟩
      · exact (h3.block _ (heap_lt hl) (nocells pre W _ _ hi hl rfl)).1.trans hl
      · exact (h3.block _ (heap_lt hd) (nocells pre W _ _ hi hd rfl)).1.trans hd
    · rintro e W2 ⟨⟨v, rfl⟩, hi, hl, hd⟩
      have hend := run_endLoop (P := Tryz.prog) hl (by rw [hr]; simp)
      rw [hr] at hend
      refine ⟨none, _, hend, hdone _ _ (Nat.le_refl _) (hI.putObj _ hi (by omega) hl rfl) ?_⟩
      exact (World.putObj_heap_other (by omega)).trans hd

/-- The statement, in a round of another such loop. -/
theorem range_in {α : Type} {g : Operand} {ps : Array Tmp} {assign body : Code} {Q : Exit → Act → World → Prop} {a : Act} {w : World} {n l₀ : Nat} {r₀ : Loop} (h₀ : w.heap[l₀]? = some (.loop r₀))
    {gf : Nat} {lb : Array Value} (hg : a.eval g = .func (.func gf) #[] lb) (eg : ∀ args w, (callFunc gf args).run Tryz.prog w = .ok (.enter gf args) w)
    {encs : α → Array Value} {xs : List α} {R : Nat → Prop} {w0 : World} (hseq : SeqAll gf lb encs xs R w0) (hb0 : Below w0.heap.size w0 w) (hps : ∀ x, (encs x).size = ps.size)
    (I : List α → World → Prop) (M : World → Nat → Prop) (hI : OwnFrom w.heap.size I) (hM : MineOk w.heap.size I M) (hR : ∀ k, R k → ¬ M w k) (h0 : I [] w) (Ax : α → Act → World → Prop) (hAx : ∀ x a', OwnFrom w.heap.size (fun (_ : Unit) W => Ax x a' W))
    (hassign : ∀ (m l : Nat) (pre : List α) (x : α) (rest : List α) (W : World) (K : Act → World → Prop), xs = pre ++ x :: rest → I pre W → (∀ a' W', W.grownBy W' none → I pre W' → Ax x a' W' → K a' W') →
      assign.wpIn (Fence.wide.inRound l) m Tryz.prog (Exit.then K (fun _ _ _ => False)) { tmps := (ps.zip (encs x)).foldl (fun t (p, v) => t.setIfInBounds p v) a.tmps, defers := [] } W)
    (hbody : ∀ (m l : Nat) (pre : List α) (x : α) (rest : List α) (a' : Act) (W : World), xs = pre ++ x :: rest → w.heap.size ≤ l → (∃ r, W.heap[l]? = some (.loop r)) → I pre W → Ax x a' W →
      body.wpIn (Fence.wide.inRound l) m Tryz.prog (allPost M I (pre ++ [x]) W) a' W)
    (hdone : ∀ (W : World), I xs W → Q .normal a W) :
    (Code.rangeFunc g ps assign body).wpIn (Fence.wide.inRound l₀) n Tryz.prog Q a w := by
  refine wpIn_rangeFunc fun fn _ => ?_
  obtain ⟨r, hr⟩ : ∃ r : Loop, r = { state := .ready, pending := none, fn, tmps := a.tmps, params := ps, assign, body, defers := r₀.defers } := ⟨_, rfl⟩
  obtain ⟨W1, hW1⟩ : ∃ W1, W1 = w.alloc (.loop r) := ⟨_, rfl⟩
  have B1 : Below w.heap.size w W1 := by rw [hW1]; exact (Below.refl _ w).alloc (Nat.le_refl _) _
  have s1 : W1.heap.size = w.heap.size + 1 := by rw [hW1]; simp
  have l1 : W1.heap[w.heap.size]? = some (.loop r) := by rw [hW1]; exact heap_new w _
  have i1 : I [] W1 := by rw [hW1]; exact hI.alloc _ h0
  refine ⟨w.heap.size, [], W1, { target := .fn (.func gf) lb, args := #[.func (.yield w.heap.size) #[] #[]] }, W1, gf, #[.func (.yield w.heap.size) #[] #[]] ++ lb, W1, ?_, ?_, fun _ _ => trivial, ?_, fun h => by simp [Fence.wide] at h, ?_⟩
  · rw [hW1, hr]; exact run_enterLoop_inner h₀ _ _ _ _ _
  · simp only [resolve, hg]; simp [go_sem]
  · simp [invoke, go_sem, eg]
  · refine CallsIn.inRound l₀ (callsIn_wide.2 ((hseq w.heap.size (fun pre W => I pre W ∧ W.heap[w.heap.size]? = some (.loop r)) M W1 (hb0.trans (B1.mono hb0.size)) ?_ ?_ (fun k hk e => hR k hk (hM.new [] w W1 none k h0 (gb_below B1) (fun r e => by cases e) e)) ?_ ⟨i1, l1⟩).mono ?_))
    · rintro pre X Y row ⟨hi, hl⟩ hgr hrow
      refine ⟨hI pre X Y row hi hgr (fun q e => ⟨by have := (hrow q e).1; omega, (hrow q e).2⟩), ?_⟩
      rw [hgr.block _ (heap_lt hl) (fun e => by have := (hrow _ e.symm).1; omega)]; exact hl
    · exact ⟨fun pre X Y row k hx hgr hrow hk => hM.new pre X Y row k hx.1 hgr (fun q e => ⟨by have := (hrow q e).1; omega, (hrow q e).2⟩) hk, fun pre X k hx hk => hM.own pre X k hx.1 hk⟩
    · rintro m pre x rest W hx ⟨hi, hl⟩
      have hy := round_all (m := m) (B := w.heap.size) (xs := pre ++ [x]) (args := encs x) hl (by rw [hr]) (by rw [hr]) (by rw [hr]; exact hps x) (Nat.le_refl _) I M hI hM hi (Ax x) (hAx x)
        (fun K hK => by rw [hr]; exact hassign m _ pre x rest W K hx hi hK)
        (fun a' W' hl' hi' hx' => by rw [hr]; exact hbody m _ pre x rest a' W' hx (Nat.le_refl _) hl' hi' hx')
      obtain ⟨f', t', as', bo', e1, e2⟩ := hy
      refine ⟨f', t', as', bo', e1, e2.mono fun e W' ⟨h1, h2, h3⟩ => ⟨h1, ⟨h2, ?_⟩, h3⟩⟩
      refine (h3.block _ (heap_lt hl) (fun e => ?_)).1.trans hl
      obtain ⟨o', ho', hc'⟩ := hM.own pre W _ hi e
      rw [hl] at ho'; cases ho'; cases hc'
    · rintro e W2 ⟨⟨v, rfl⟩, hi, hl⟩
      have hend := run_endLoop (P := Tryz.prog) hl (by rw [hr]; simp)
      rw [hr] at hend
      exact ⟨none, _, hend, by simpa using hdone _ (hI.putObj _ hi (Nat.le_refl _) hl rfl)⟩

end Go.Proofs.YtpbhdlhbcfkhfaaGreat
