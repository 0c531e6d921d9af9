/-
  An index in memory: its map of labels, its maps of names; what keeps it.
-/
import Derived.Test.YtifjbbiphekmmaaGreatDoorINams
namespace Go.Proofs.YtifjbbiphekmmaaGreatDoor
open Go.RowKit
set_option linter.unusedVariables false
set_option linter.unusedSimpArgs false

def mpV (p : Tx × (Value × List Lb)) : Tx × Value := (p.1, p.2.1)
def mpL (p : Tx × (Value × List Lb)) : Ent := (p.1, p.2.2)
def LabsAt (w : World) (b : Nat) (E : List Ent) : Prop := ∃ T : List (Tx × (Value × List Lb)), MapAt w b (T.map mpV) ∧ (T.map mpL).Perm E ∧ ∀ p ∈ T, LbV w p.2.1 p.2.2
theorem LabsAt.lt {w : World} {b : Nat} {E : List Ent} (h : LabsAt w b E) : b < w.heap.size := by
  obtain ⟨T, h1, _⟩ := h
  exact h1.lt
theorem keysL_map {β γ : Type} (f : Tx × β → Tx × γ) (hf : ∀ p, (f p).1 = p.1) (L : List (Tx × β)) : keysL (L.map f) = keysL L := by
  unfold keysL
  rw [List.map_map]
  exact List.map_congr_left (fun p _ => hf p)
theorem LabsAt.trn {F : Nat → Prop} {w w' : World} {b : Nat} {E : List Ent} (h : LabsAt w b E) (t : Trn F w w') (hb : ¬ F b) : LabsAt w' b E := by
  obtain ⟨T, h1, h2, h3⟩ := h
  exact ⟨T, h1.same (t.block b h1.lt hb), h2, fun p hp => (h3 p hp).trn t⟩
theorem LabsAt.keys {w : World} {b : Nat} {E : List Ent} {T : List (Tx × (Value × List Lb))} (h2 : (T.map mpL).Perm E) (k : Tx) : k ∈ keysL (T.map mpV) ↔ k ∈ keysL E := by
  rw [keysL_map mpV (fun _ => rfl), ← keysL_map mpL (fun _ => rfl)]
  exact (h2.map Prod.fst).mem_iff
/-- What a key's look-up gives. -/
theorem LabsAt.look_hit {w : World} {E : List Ent} {T : List (Tx × (Value × List Lb))} (hn : (keysL (T.map mpV)).Nodup) (h2 : (T.map mpL).Perm E) (h3 : ∀ p ∈ T, LbV w p.2.1 p.2.2) {k : Tx} {l : List Lb} (hl : (k, l) ∈ E) :
    ∃ v, look (T.map mpV) k = some v ∧ LbV w v l := by
  have hm := h2.mem_iff.2 hl
  obtain ⟨p, hp, e⟩ := List.mem_map.1 hm
  obtain ⟨k', v, l'⟩ := p
  simp only [mpL, Prod.mk.injEq] at e
  obtain ⟨rfl, rfl⟩ := e
  exact ⟨v, mem_look hn (List.mem_map.2 ⟨_, hp, rfl⟩), h3 _ hp⟩
theorem LabsAt.look_miss {E : List Ent} {T : List (Tx × (Value × List Lb))} (h2 : (T.map mpL).Perm E) {k : Tx} (hk : k ∉ keysL E) : look (T.map mpV) k = none :=
  look_none.2 (fun h => hk ((LabsAt.keys (w := default) (b := 0) h2 k).1 h))
theorem LabsAt.put {w w' : World} {b : Nat} {E : List Ent} {k : Tx} {l : List Lb} {v : Value} {T : List (Tx × (Value × List Lb))} (h2 : (T.map mpL).Perm E) (h3 : ∀ p ∈ T, LbV w p.2.1 p.2.2) (hk : k ∉ keysL E) (hv : LbV w v l)
    {F : Nat → Prop} (t : Trn F w w') (hm : MapAt w' b (ups (T.map mpV) k v)) : LabsAt w' b (insG (k, l) E) := by
  rw [ups_absent (fun h => hk ((LabsAt.keys (w := w) (b := b) h2 k).1 h))] at hm
  refine ⟨T ++ [(k, v, l)], by rw [List.map_append]; exact hm, ?_, fun p hp => ?_⟩
  · rw [List.map_append]
    refine (h2.append_right _).trans ?_
    refine List.Perm.trans ?_ (insG_perm (k, l) E).symm
    exact List.perm_append_singleton ..
  · rcases List.mem_append.1 hp with hp | hp
    · exact (h3 p hp).trn t
    · rw [List.mem_singleton] at hp
      subst hp; exact hv.trn t
theorem dels_map {β γ : Type} (f : Tx × β → Tx × γ) (hf : ∀ p, (f p).1 = p.1) (L : List (Tx × β)) (k : Tx) : dels (L.map f) k = (dels L k).map f := by
  unfold dels
  rw [List.filter_map]
  congr 1
  exact List.filter_congr (fun p _ => by simp [Function.comp, hf])
theorem LabsAt.del {w w' : World} {b : Nat} {E : List Ent} {k : Tx} {T : List (Tx × (Value × List Lb))} (h2 : (T.map mpL).Perm E) (h3 : ∀ p ∈ T, LbV w p.2.1 p.2.2)
    {F : Nat → Prop} (t : Trn F w w') (hm : MapAt w' b (dels (T.map mpV) k)) : LabsAt w' b (dels E k) := by
  rw [dels_map mpV (fun _ => rfl)] at hm
  refine ⟨dels T k, hm, ?_, fun p hp => (h3 p (mem_dels.1 hp).1).trn t⟩
  rw [← dels_map mpL (fun _ => rfl)]
  exact h2.filter _

/-! The index. -/
def IxCell (w : World) (x bl bn : Nat) : Prop := w.heap[x]? = some (.cells #[mp bl, mp bn] 97 (0, 0))
theorem IxCell.c0 {w : World} {x bl bn : Nat} (h : IxCell w x bl bn) : w.cell? ⟨x, 0, none⟩ = some (mp bl) := by rw [cell_of h]; rfl
theorem IxCell.c1 {w : World} {x bl bn : Nat} (h : IxCell w x bl bn) : w.cell? ⟨x, 1, none⟩ = some (mp bn) := by rw [cell_of h]; rfl
theorem IxCell.trn {F : Nat → Prop} {w w' : World} {x bl bn : Nat} (h : IxCell w x bl bn) (t : Trn F w w') : IxCell w' x bl bn := t.cells _ _ _ _ h
structure IxAt (w : World) (x bl bn : Nat) (ρ : Rho) (E : List Ent) : Prop where
  cell : IxCell w x bl bn
  rl : ρ bl = some .labs
  rn : ρ bn = some .nams
  labs : LabsAt w bl E
  nams : NamsAt w bn ρ (SOf E)
  ok : RhoOk w ρ
  good : GoodE E
theorem IxAt.trn {F : Nat → Prop} {w w' : World} {x bl bn : Nat} {ρ : Rho} {E : List Ent} (h : IxAt w x bl bn ρ E) (t : Trn F w w') (hF : ∀ i, i < w.heap.size → FA ρ i → ¬ F i) : IxAt w' x bl bn ρ E := by
  refine ⟨h.cell.trn t, h.rl, h.rn, h.labs.trn t (hF bl h.labs.lt (by unfold FA; rw [h.rl]; simp)), ?_, fun i r e => ?_, h.good⟩
  · exact h.nams.same (t.block bn h.nams.lt (hF bn h.nams.lt (by unfold FA; rw [h.rn]; simp))) (.refl _ _) (fun c hc f => t.block c hc (hF c hc f.a)) (fun _ _ _ => Iff.rfl)
  · obtain ⟨es, c, hb⟩ := h.ok i r e
    exact ⟨es, c, (t.block i (heap_lt hb) (hF i (heap_lt hb) (by unfold FA; rw [e]; simp))).trans hb⟩
theorem IxAt.keep {w w' : World} {x bl bn : Nat} {ρ : Rho} {E : List Ent} (h : IxAt w x bl bn ρ E) (hb : Below w.heap.size w w') : IxAt w' x bl bn ρ E := h.trn (F := fun _ => False) (.of hb) (fun _ _ _ f => f)
theorem IxAt.lt {w : World} {x bl bn : Nat} {ρ : Rho} {E : List Ent} (h : IxAt w x bl bn ρ E) {i : Nat} (hi : FA ρ i) : i < w.heap.size := by
  cases e : ρ i with
  | none => exact absurd e hi
  | some r => exact h.ok.lt e

/-- What a call that turns an index leaves: the index, with other keys; nothing else has turned. -/
structure IxTurn (w w' : World) (x bl bn : Nat) (ρ ρ' : Rho) (E' : List Ent) : Prop where
  ix : IxAt w' x bl bn ρ' E'
  ext : RExt w ρ ρ'
  trn : Trn (FA ρ) w w'
theorem IxTurn.pre {w w1 w2 : World} {x bl bn : Nat} {ρ ρ' : Rho} {E' : List Ent} (hb : Below w.heap.size w w1) (h : IxTurn w1 w2 x bl bn ρ ρ' E') : IxTurn w w2 x bl bn ρ ρ' E' :=
  ⟨h.ix, fun i hi => h.ext i (Nat.lt_of_lt_of_le hi hb.size), (Trn.of (F := FA ρ) hb).trans h.trn (fun _ _ f => f)⟩
theorem IxTurn.trans {w w1 w2 : World} {x bl bn : Nat} {ρ ρ1 ρ2 : Rho} {E1 E2 : List Ent} (h : IxTurn w w1 x bl bn ρ ρ1 E1) (k : IxTurn w1 w2 x bl bn ρ1 ρ2 E2) : IxTurn w w2 x bl bn ρ ρ2 E2 :=
  ⟨k.ix, h.ext.trans k.ext h.trn.size, h.trn.trans k.trn (fun i hi f => by unfold FA at *; rw [h.ext i hi] at f; exact f)⟩
theorem IxTurn.thenB {w w1 w2 : World} {x bl bn : Nat} {ρ ρ1 : Rho} {E1 : List Ent} (h : IxTurn w w1 x bl bn ρ ρ1 E1) (hb : Below w1.heap.size w1 w2) : IxTurn w w2 x bl bn ρ ρ1 E1 :=
  ⟨h.ix.keep hb, h.ext, h.trn.thenB hb⟩

end Go.Proofs.YtifjbbiphekmmaaGreatDoor
