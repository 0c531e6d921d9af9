/-
  Contracts.
-/
import Derived.Test.YtmifpfojhlmbkaaGreatJ0
import Derived.Maps.RangeWalk
import Derived.Maps.OwnSet
import Derived.Sort.MapsRangeIn
import Derived.RangeFuncSeq
namespace Go.Proofs.YtmifpfojhlmbkaaGreat
open Lib (hid)
set_option maxRecDepth 100000
set_option maxHeartbeats 16000000
open Go.RowKit Go.MapKept
open Go.ChangeMaps (setBlock heap_setBlock_same heap_setBlock_other modify_eq_set map_eraseIdx)
set_option linter.unusedVariables false
set_option linter.unusedSimpArgs false
def look {β : Type} : List (Tx × β) → Tx → Option β
  | [], _ => none
  | p :: L, k => if p.1 = k then some p.2 else look L k
def ups {β : Type} : List (Tx × β) → Tx → β → List (Tx × β)
  | [], k, v => [(k, v)]
  | p :: L, k, v => if p.1 = k then (k, v) :: L else p :: ups L k v
def dels {β : Type} (L : List (Tx × β)) (k : Tx) : List (Tx × β) := L.filter fun p => decide (p.1 ≠ k)
def keysL {β : Type} (L : List (Tx × β)) : List Tx := L.map Prod.fst
theorem look_none {β : Type} {k : Tx} : ∀ {L : List (Tx × β)}, look L k = none ↔ k ∉ keysL L
  | [] => by simp [look, keysL]
  | p :: L => by
    have ih := look_none (k := k) (L := L)
    unfold look
    by_cases h : p.1 = k
    · simp [h, keysL]
    · rw [if_neg h, ih]
      simp only [keysL, List.map_cons, List.mem_cons, not_or]
      exact ⟨fun hk => ⟨fun e => h e.symm, hk⟩, fun hk => hk.2⟩
theorem look_mem {β : Type} {k : Tx} {v : β} : ∀ {L : List (Tx × β)}, look L k = some v → (k, v) ∈ L
  | [], h => by simp [look] at h
  | p :: L, h => by
    unfold look at h
    by_cases e : p.1 = k
    · rw [if_pos e] at h
      simp only [Option.some.injEq] at h
      subst e; subst h; simp
    · rw [if_neg e] at h
      exact List.mem_cons_of_mem _ (look_mem h)
theorem mem_look {β : Type} {k : Tx} {v : β} : ∀ {L : List (Tx × β)}, (keysL L).Nodup → (k, v) ∈ L → look L k = some v
  | [], _, h => by simp at h
  | p :: L, hn, h => by
    simp only [keysL, List.map_cons, List.nodup_cons] at hn
    unfold look
    rcases List.mem_cons.1 h with e | e
    · subst e; simp
    · rw [if_neg, mem_look hn.2 e]
      intro ek
      exact hn.1 (by rw [ek]; exact List.mem_map.2 ⟨_, e, rfl⟩)
theorem look_some {β : Type} {k : Tx} {L : List (Tx × β)} : (look L k).isSome = decide (k ∈ keysL L) := by
  cases h : look L k with
  | none => rw [decide_eq_false (look_none.1 h)]; rfl
  | some v => rw [decide_eq_true (show k ∈ keysL L from List.mem_map.2 ⟨_, look_mem h, rfl⟩)]; rfl
theorem ups_absent {β : Type} {k : Tx} {v : β} : ∀ {L : List (Tx × β)}, k ∉ keysL L → ups L k v = L ++ [(k, v)]
  | [], _ => rfl
  | p :: L, h => by
    simp only [keysL, List.map_cons, List.mem_cons, not_or] at h
    unfold ups
    rw [if_neg (fun e => h.1 e.symm), ups_absent h.2]; rfl
theorem ups_at {β : Type} {k : Tx} {v : β} : ∀ {L : List (Tx × β)} {j : Nat} {p : Tx × β}, (keysL L).Nodup → L[j]? = some p → p.1 = k → ups L k v = L.set j (k, v)
  | [], j, p, _, h, _ => by simp at h
  | q :: L, 0, p, _, h, e => by
    simp only [List.getElem?_cons_zero, Option.some.injEq] at h
    subst h
    unfold ups; rw [if_pos e]; rfl
  | q :: L, j + 1, p, hn, h, e => by
    simp only [List.getElem?_cons_succ] at h
    simp only [keysL, List.map_cons, List.nodup_cons] at hn
    unfold ups
    rw [if_neg, ups_at hn.2 h e, List.set_cons_succ]
    intro ek
    exact hn.1 (by rw [ek, ← e]; exact List.mem_map.2 ⟨_, List.mem_of_getElem? h, rfl⟩)
theorem dels_absent {β : Type} {k : Tx} {L : List (Tx × β)} (h : k ∉ keysL L) : dels L k = L :=
  List.filter_eq_self.2 fun p hp => decide_eq_true fun e => h (by rw [← e]; exact List.mem_map.2 ⟨_, hp, rfl⟩)
theorem dels_at {β : Type} {k : Tx} : ∀ {L : List (Tx × β)} {j : Nat} {p : Tx × β}, (keysL L).Nodup → L[j]? = some p → p.1 = k → dels L k = L.eraseIdx j
  | [], j, p, _, h, _ => by simp at h
  | q :: L, 0, p, hn, h, e => by
    simp only [List.getElem?_cons_zero, Option.some.injEq] at h
    subst h
    simp only [keysL, List.map_cons, List.nodup_cons] at hn
    unfold dels
    rw [List.filter_cons_of_neg (by simp [e])]
    exact dels_absent (by rw [← e]; exact hn.1)
  | q :: L, j + 1, p, hn, h, e => by
    simp only [List.getElem?_cons_succ] at h
    simp only [keysL, List.map_cons, List.nodup_cons] at hn
    have hq : q.1 ≠ k := fun ek => hn.1 (by rw [ek, ← e]; exact List.mem_map.2 ⟨_, List.mem_of_getElem? h, rfl⟩)
    have ih := dels_at (k := k) hn.2 h e
    unfold dels at *
    rw [List.filter_cons_of_pos (by simp [hq]), ih, List.eraseIdx_cons_succ]
theorem mem_dels {β : Type} {k : Tx} {p : Tx × β} {L : List (Tx × β)} : p ∈ dels L k ↔ p ∈ L ∧ p.1 ≠ k := by
  unfold dels; rw [List.mem_filter]; simp
theorem keys_dels {β : Type} {k x : Tx} {L : List (Tx × β)} : x ∈ keysL (dels L k) ↔ x ∈ keysL L ∧ x ≠ k := by
  constructor
  · intro h
    obtain ⟨p, hp, rfl⟩ := List.mem_map.1 h
    rw [mem_dels] at hp
    exact ⟨List.mem_map.2 ⟨_, hp.1, rfl⟩, hp.2⟩
  · rintro ⟨h, hk⟩
    obtain ⟨p, hp, rfl⟩ := List.mem_map.1 h
    exact List.mem_map.2 ⟨_, mem_dels.2 ⟨hp, hk⟩, rfl⟩
theorem look_ups_same {β : Type} (k : Tx) (v : β) : ∀ (L : List (Tx × β)), look (ups L k v) k = some v
  | [] => by simp [ups, look]
  | p :: L => by
    unfold ups
    split
    · simp [look]
    · rename_i h
      unfold look
      rw [if_neg h]; exact look_ups_same k v L
theorem look_ups_ne {β : Type} {k x : Tx} (v : β) (h : x ≠ k) : ∀ (L : List (Tx × β)), look (ups L k v) x = look L x
  | [] => by unfold ups look; rw [if_neg (fun e => h e.symm)]; rfl
  | p :: L => by
    unfold ups
    split
    · rename_i e
      unfold look
      rw [if_neg (fun e' => h e'.symm), if_neg (fun e' => h (e'.symm.trans e))]
    · unfold look
      rw [look_ups_ne v h L]
theorem look_dels_same {β : Type} (k : Tx) (L : List (Tx × β)) : look (dels L k) k = none := look_none.2 fun h => (keys_dels.1 h).2 rfl
theorem look_dels_ne {β : Type} {k x : Tx} (h : x ≠ k) : ∀ (L : List (Tx × β)), look (dels L k) x = look L x
  | [] => rfl
  | p :: L => by
    unfold dels
    by_cases e : p.1 = k
    · rw [List.filter_cons_of_neg (by simp [e])]
      have := look_dels_ne h L
      unfold dels at this
      rw [this]
      conv => rhs; unfold look
      rw [if_neg (fun e' => h (e'.symm.trans e))]
    · rw [List.filter_cons_of_pos (by simp [e])]
      have := look_dels_ne h L
      unfold dels at this
      unfold look
      rw [this]
theorem keys_ups {β : Type} {k x : Tx} {v : β} {L : List (Tx × β)} : x ∈ keysL (ups L k v) ↔ x = k ∨ x ∈ keysL L := by
  by_cases h : x = k
  · subst h
    have := look_ups_same x v L
    simp only [true_or, iff_true]
    exact List.mem_map.2 ⟨_, look_mem this, rfl⟩
  · have e := look_ups_ne v h L
    have e2 := congrArg Option.isSome e
    rw [look_some, look_some] at e2
    simp only [h, false_or]
    exact decide_eq_decide.1 e2
theorem keysL_nil {β : Type} {L : List (Tx × β)} (h : ∀ k, k ∉ keysL L) : L = [] := by
  cases L with
  | nil => rfl
  | cons p L => exact absurd (by simp [keysL]) (h p.1)
def keyTx : Value → Tx
  | .string s => tx s
  | _ => []
def dec (x : MapEntry) : Tx × Value := (keyTx x.key, x.val)
def MapAt (w : World) (b : Nat) (L : List (Tx × Value)) : Prop :=
  ∃ es clock, w.heap[b]? = some (.map es clock) ∧ Stamped es clock ∧ (∀ x ∈ es.toList, x.key = .string (bs (dec x).1)) ∧ L = es.toList.map dec
theorem MapAt.lt {w : World} {b : Nat} {L : List (Tx × Value)} (h : MapAt w b L) : b < w.heap.size := by
  obtain ⟨es, c, hb, _⟩ := h
  exact heap_lt hb
theorem MapAt.isMap {w : World} {b : Nat} {L : List (Tx × Value)} (h : MapAt w b L) : ∃ es c, w.heap[b]? = some (.map es c) := by
  obtain ⟨es, c, hb, _⟩ := h
  exact ⟨es, c, hb⟩
theorem MapAt.nodup {w : World} {b : Nat} {L : List (Tx × Value)} (h : MapAt w b L) : (keysL L).Nodup := by
  obtain ⟨es, c, hb, hs, hk, rfl⟩ := h
  have hp := ((stamped_iff es c).1 hs).2.2
  unfold keysL List.Nodup
  rw [List.map_map, List.pairwise_map]
  refine List.Pairwise.imp_of_mem (fun {x y} hx hy hne e => hne ?_) hp
  rw [hk x hx, hk y hy]
  exact congrArg (fun t => Value.string (bs t)) e
theorem MapAt.same {w w' : World} {b : Nat} {L : List (Tx × Value)} (h : MapAt w b L) (e : w'.heap[b]? = w.heap[b]?) : MapAt w' b L := by
  obtain ⟨es, c, hb, r⟩ := h
  exact ⟨es, c, e.trans hb, r⟩
theorem MapAt.keep {w w' : World} {b : Nat} {L : List (Tx × Value)} (h : MapAt w b L) (hb : Below w.heap.size w w') : MapAt w' b L := h.same (hb.block b h.lt)
theorem MapAt.gb {w w' : World} {b : Nat} {row : Option Nat} {L : List (Tx × Value)} (h : MapAt w b L) (hg : w.grownBy w' row) (hne : some b ≠ row) : MapAt w' b L := h.same (hg.block b h.lt hne)
theorem MapAt.new (w : World) : MapAt (w.alloc (.map #[] 0)) w.heap.size [] := ⟨#[], 0, heap_new w _, stamped_empty 0, by simp, rfl⟩
theorem isk (s : ByteArray) : IsKey .string (.string s) := trivial
theorem key_bs {s : Tx} {x : MapEntry} (h : x.key = .string (bs (dec x).1)) : x.key = .string (bs s) ↔ (dec x).1 = s := by
  rw [h]
  constructor
  · intro e; exact bs_inj (by simpa using e)
  · intro e; rw [e]
section
variable {P : Program} {w : World} {b : Nat} {L : List (Tx × Value)} {T K E : TypeId}
theorem find_cases {es : Array MapEntry} {c : Nat} (hs : Stamped es c) (hk : ∀ x ∈ es.toList, x.key = .string (bs (dec x).1)) (k : Tx) :
    (Instr.findNow .string (.string (bs k)) es.toList 0 = some none ∧ (∀ x ∈ es.toList, x.key ≠ .string (bs k)) ∧ k ∉ keysL (es.toList.map dec)) ∨
    ∃ j e, Instr.findNow .string (.string (bs k)) es.toList 0 = some (some (j, e.val)) ∧ es.toList[j]? = some e ∧ e.key = .string (bs k) ∧ (dec e).1 = k := by
  have hks : ∀ x ∈ es.toList, IsKey .string x.key := fun x hx => by rw [hk x hx]; trivial
  rcases findNow_spec (d := .string) (k := .string (bs k)) trivial es.toList 0 hks with ⟨h1, h2⟩ | ⟨j, e, h1, h2, h3⟩
  · refine .inl ⟨h1, h2, fun hm => ?_⟩
    unfold keysL at hm
    rw [List.map_map] at hm
    obtain ⟨x, hx, e⟩ := List.mem_map.1 hm
    exact h2 x hx ((key_bs (hk x hx)).2 e)
  · exact .inr ⟨j, e, by simpa using h1, h2, h3, (key_bs (hk e (List.mem_of_getElem? h2))).1 h3⟩
theorem MapAt.lookup (h : MapAt w b L) (ht : P.underlying T = some (.map K E)) (hk : P.underlying K = some .string) {z : Value} (hz : (zeroValue E).run P w = .ok z w) (k : Tx) (c : Bool) :
    (Instr.lookup T (.map (some b)) (.string (bs k)) c).run P w = .ok (if c then .tuple #[(look L k).getD z, .bool (look L k).isSome] else (look L k).getD z) w := by
  have hn := h.nodup
  obtain ⟨es, cl, hb, hs, hkey, rfl⟩ := h
  have hck : ∀ em, (Instr.checkKey em 10000 K (.string (bs k))).run P w = .ok () w := fun em => run_checkKey hk (isk _) em 9999
  rcases find_cases hs hkey k with ⟨h1, h2, h3⟩ | ⟨j, e, h1, h2, h3, h4⟩
  · rw [look_none.2 h3]
    simp [Instr.lookup, run_underlying ht, MapKept.run_getObj_map hb, hck, run_findKey hk h1, hz, Result.andThen]
  · have hl : look (es.toList.map dec) k = some e.val := mem_look hn (List.mem_map.2 ⟨e, List.mem_of_getElem? h2, by rw [← h4]; rfl⟩)
    rw [hl]
    simp [Instr.lookup, run_underlying ht, MapKept.run_getObj_map hb, hck, run_findKey hk h1, Result.andThen]
theorem map_set' {α β : Type} (f : α → β) : ∀ (l : List α) (j : Nat) (x : α), (l.set j x).map f = (l.map f).set j (f x)
  | [], _, _ => rfl
  | _ :: _, 0, _ => rfl
  | a :: l, j + 1, x => by simp [map_set' f l j x]
theorem MapAt.update (h : MapAt w b L) (ht : P.underlying T = some (.map K E)) (hk : P.underlying K = some .string) (k : Tx) (v : Value) :
    ∃ w', (Instr.mapUpdate T (.map (some b)) (.string (bs k)) v).run P w = .ok () w' ∧ MapAt w' b (ups L k v) ∧ w.grownBy w' (some b) ∧ w'.heap.size = w.heap.size := by
  have hn := h.nodup
  obtain ⟨es, cl, hb, hs, hkey, rfl⟩ := h
  have hck : ∀ em, (Instr.checkKey em 10000 K (.string (bs k))).run P w = .ok () w := fun em => run_checkKey hk (isk _) em 9999
  rcases find_cases hs hkey k with ⟨h1, h2, h3⟩ | ⟨j, e, h1, h2, h3, h4⟩
  · refine ⟨setBlock w b (.map (es.push ⟨.string (bs k), v, cl⟩) (cl + 1)), ?_, ⟨_, _, heap_setBlock_same hb _, stamped_push hs h2, ?_, ?_⟩, ⟨rfl, rfl, rfl, by simp [setBlock], fun i _ hi => heap_setBlock_other hb _ (fun e => hi (by rw [e]))⟩, by simp [setBlock]⟩
    · simp [Instr.mapUpdate, run_underlying ht, MapKept.run_getObj_map hb, hck, run_findKey hk h1, MapKept.run_setObj_map _ hb, Result.andThen, setBlock]
    · intro x hx
      simp only [Array.toList_push, List.mem_append, List.mem_singleton] at hx
      rcases hx with hx | rfl
      · exact hkey x hx
      · show Value.string (bs k) = .string (bs (tx (bs k)))
        rw [tx_bs]
    · rw [ups_absent h3, Array.toList_push, List.map_append]
      show _ = _ ++ [(tx (bs k), v)]
      rw [tx_bs]
  · have hj : es[j]? = some e := by simpa using h2
    have hst := run_keyThatStays (P := P) (w := w) (isk (bs k))
    have hlist : (es.modify j (fun e' => { e' with key := .string (bs k), val := v })).toList = es.toList.set j { e with key := .string (bs k), val := v } := by rw [Array.toList_modify, modify_eq_set _ _ _ _ h2]
    refine ⟨setBlock w b (.map (es.modify j (fun e' => { e' with key := .string (bs k), val := v })) cl), ?_, ⟨_, _, heap_setBlock_same hb _, stamped_modify hs _ _ (fun _ _ => rfl) (fun e' _ he' => by rw [hj] at he'; cases he'; exact h3.symm), ?_, ?_⟩, ⟨rfl, rfl, rfl, by simp [setBlock], fun i _ hi => heap_setBlock_other hb _ (fun e => hi (by rw [e]))⟩, by simp [setBlock]⟩
    · simp [Instr.mapUpdate, run_underlying ht, MapKept.run_getObj_map hb, hck, run_findKey hk h1, hj, h3, hst, MapKept.run_setObj_map _ hb, Result.andThen, setBlock]
    · intro x hx
      rw [hlist] at hx
      rcases List.mem_or_eq_of_mem_set hx with hx | rfl
      · exact hkey x hx
      · show Value.string (bs k) = .string (bs (tx (bs k)))
        rw [tx_bs]
    · rw [hlist, map_set', ups_at hn (p := dec e) (by rw [List.getElem?_map, h2]; rfl) h4]
      show _ = (es.toList.map dec).set j (tx (bs k), v)
      rw [tx_bs]
theorem MapAt.delete {ty : TypeId} (h : MapAt w b L) (ht : P.underlying T = some (.map K E)) (hk : P.underlying K = some .string) (k : Tx) :
    ∃ w', (Builtin.delete_ #[T, K] ty #[.map (some b), .string (bs k)]).run P w = .ok (.tuple #[]) w' ∧ MapAt w' b (dels L k) ∧ w.grownBy w' (some b) ∧ w'.heap.size = w.heap.size := by
  have hn := h.nodup
  obtain ⟨es, cl, hb, hs, hkey, rfl⟩ := h
  have hck : ∀ em, (Instr.checkKey em 10000 K (.string (bs k))).run P w = .ok () w := fun em => run_checkKey hk (isk _) em 9999
  rcases find_cases hs hkey k with ⟨h1, h2, h3⟩ | ⟨j, e, h1, h2, h3, h4⟩
  · refine ⟨setBlock w b (.map es cl), ?_, ⟨_, _, heap_setBlock_same hb _, hs, hkey, by rw [dels_absent h3]⟩, ⟨rfl, rfl, rfl, by simp [setBlock], fun i _ hi => heap_setBlock_other hb _ (fun e => hi (by rw [e]))⟩, by simp [setBlock]⟩
    simp [Builtin.delete_, run_underlying ht, MapKept.run_getObj_map hb, hck, run_findKey hk h1, MapKept.run_setObj_map _ hb, Result.andThen, setBlock]
  · have hjs : j < es.size := by have := (List.getElem?_eq_some_iff.1 h2).1; simpa using this
    have hsub : (es.eraseIdxIfInBounds j).toList = es.toList.eraseIdx j := by
      unfold Array.eraseIdxIfInBounds
      rw [dif_pos hjs]
      simp
    refine ⟨setBlock w b (.map (es.eraseIdxIfInBounds j) cl), ?_, ⟨_, _, heap_setBlock_same hb _, stamped_erase hs j, ?_, ?_⟩, ⟨rfl, rfl, rfl, by simp [setBlock], fun i _ hi => heap_setBlock_other hb _ (fun e => hi (by rw [e]))⟩, by simp [setBlock]⟩
    · simp [Builtin.delete_, run_underlying ht, MapKept.run_getObj_map hb, hck, run_findKey hk h1, MapKept.run_setObj_map _ hb, Result.andThen, setBlock]
    · intro x hx
      rw [hsub] at hx
      exact hkey x ((List.eraseIdx_sublist _ _).subset hx)
    · rw [hsub, map_eraseIdx, dels_at hn (p := dec e) (by rw [List.getElem?_map, h2]; rfl) h4]
theorem MapAt.len (h : MapAt w b L) (ht : P.underlying T = some (.map K E)) (ty : TypeId) : (Builtin.len_ #[T] ty #[.map (some b)]).run P w = .ok (.int .i64 (L.length : Int)) w := by
  obtain ⟨es, cl, hb, hs, hkey, rfl⟩ := h
  simp [Builtin.len_, run_underlying ht, MapKept.run_getObj_map hb, goInt, Result.andThen]
def RngAt (w : World) (b r : Nat) (L left : List (Tx × Value)) : Prop :=
  ∃ es clock since seen c0, w.heap[b]? = some (.map es clock) ∧ Stamped es clock ∧ (∀ x ∈ es.toList, x.key = .string (bs (dec x).1)) ∧ L = es.toList.map dec ∧
    w.heap[r]? = some (.mapIter (some b) since seen c0) ∧ (∀ x ∈ es.toList, x.born < since) ∧ since ≤ c0 ∧ since ≤ clock ∧ left.Perm ((leftOf es seen).toList.map dec)
theorem RngAt.map {r : Nat} {left : List (Tx × Value)} (h : RngAt w b r L left) : MapAt w b L := by
  obtain ⟨es, clock, since, seen, c0, h1, h2, h3, h4, _⟩ := h
  exact ⟨es, clock, h1, h2, h3, h4⟩
theorem RngAt.lt {r : Nat} {left : List (Tx × Value)} (h : RngAt w b r L left) : r < w.heap.size := by
  obtain ⟨es, clock, since, seen, c0, h1, h2, h3, h4, h5, _⟩ := h
  exact heap_lt h5
theorem RngAt.ne {r : Nat} {left : List (Tx × Value)} (h : RngAt w b r L left) : r ≠ b := by
  obtain ⟨es, clock, since, seen, c0, h1, h2, h3, h4, h5, _⟩ := h
  intro e
  rw [e, h1] at h5
  cases h5
theorem RngAt.same {w' : World} {r : Nat} {left : List (Tx × Value)} (h : RngAt w b r L left) (e1 : w'.heap[b]? = w.heap[b]?) (e2 : w'.heap[r]? = w.heap[r]?) : RngAt w' b r L left := by
  obtain ⟨es, clock, since, seen, c0, h1, h2, h3, h4, h5, h6⟩ := h
  exact ⟨es, clock, since, seen, c0, e1.trans h1, h2, h3, h4, e2.trans h5, h6⟩
theorem RngAt.keep {w' : World} {r : Nat} {left : List (Tx × Value)} (h : RngAt w b r L left) (hb : Below w.heap.size w w') : RngAt w' b r L left := h.same (hb.block b h.map.lt) (hb.block r h.lt)
theorem RngAt.walk {r : Nat} {left : List (Tx × Value)} (h : RngAt w b r L left) : ∃ o : Obj, w.heap[r]? = some o ∧ o.isWalk = true := by
  obtain ⟨es, clock, since, seen, c0, h1, h2, h3, h4, h5, _⟩ := h
  exact ⟨_, h5, rfl⟩
theorem RngAt.of_walks {w' : World} {r : Nat} {left : List (Tx × Value)} (h : RngAt w b r L left) (hk : KeepsWalks w w') : RngAt w' b r L left := by
  obtain ⟨es, clock, since, seen, c0, h1, h2, h3, h4, h5, h6⟩ := h
  exact ⟨es, clock, since, seen, c0, hk.same b _ h1 rfl, h2, h3, h4, hk.same r _ h5 rfl, h6⟩
theorem RngAt.left_eq {r : Nat} {left : List (Tx × Value)} (h : RngAt w b r L left) : w.rangeLeft b r = left.length := by
  obtain ⟨es, clock, since, seen, c0, h1, h2, h3, h4, h5, _, _, _, h6⟩ := h
  simp only [World.rangeLeft, h1, h5]
  rw [h6.length_eq]
  simp
theorem MapAt.range (h : MapAt w b L) (ht : P.underlying T = some (.map K E)) :
    ∃ w', (Instr.range T (.map (some b))).run P w = .ok (.pointer (some ⟨w.heap.size, 0, none⟩)) w' ∧ RngAt w' b w.heap.size L L ∧ w.grownBy w' none ∧ w'.heap.size = w.heap.size + 1 := by
  have hlt := h.lt
  obtain ⟨es, cl, hb, hs, hkey, rfl⟩ := h
  refine ⟨_, run_range_map w T K E b es cl ht hb, ⟨es, cl, cl, #[], cl, ((MapKept.heap_alloc w _).2 b hlt).trans hb, hs, hkey, rfl, (MapKept.heap_alloc w _).1, ((stamped_iff es cl).1 hs).1, Nat.le_refl _, Nat.le_refl _, ?_⟩, World.grownBy_alloc w _ none, by simp⟩
  simp only [leftOf]
  rw [Array.toList_filter, List.filter_eq_self.2 (by simp)]
theorem perm_strike {e : MapEntry} : ∀ {l : List MapEntry}, (l.map (·.born)).Nodup → e ∈ l → l.Perm (e :: l.filter fun x => !(x.born == e.born))
  | [], _, h => by cases h
  | a :: r, hn, h => by
    simp only [List.map_cons, List.nodup_cons] at hn
    rcases List.mem_cons.1 h with rfl | h
    · rw [List.filter_cons_of_neg (by simp)]
      rw [List.filter_eq_self.2]
      intro x hx
      have : x.born ≠ e.born := fun k => hn.1 (by rw [← k]; exact List.mem_map.2 ⟨x, hx, rfl⟩)
      simp [this]
    · have : a.born ≠ e.born := fun k => hn.1 (by rw [k]; exact List.mem_map.2 ⟨e, h, rfl⟩)
      rw [List.filter_cons_of_pos (by simp [this])]
      exact ((perm_strike hn.2 h).cons a).trans (List.Perm.swap ..)
theorem leftOf_push {es : Array MapEntry} {seen : Array Nat} {e : MapEntry} (hn : (es.toList.map (·.born)).Nodup) (he : e ∈ (leftOf es seen).toList) :
    (leftOf es seen).toList.Perm (e :: (leftOf es (seen.push e.born)).toList) := by
  have hb : ((leftOf es seen).toList.map (·.born)).Nodup := by
    unfold leftOf
    rw [Array.toList_filter]
    exact List.Nodup.sublist (List.Sublist.map _ List.filter_sublist) hn
  have e1 : (leftOf es (seen.push e.born)).toList = (leftOf es seen).toList.filter fun x => !(x.born == e.born) := by
    unfold leftOf
    rw [Array.toList_filter, Array.toList_filter, List.filter_filter]
    refine List.filter_congr fun x _ => ?_
    rw [contains_push]
    cases seen.contains x.born <;> cases (x.born == e.born) <;> rfl
  rw [e1]
  exact perm_strike hb he
theorem RngAt.next {r : Nat} {left : List (Tx × Value)} (h : RngAt w b r L left) (ty : TypeId) :
    (left = [] ∧ (Instr.next (.pointer (some ⟨r, 0, none⟩)) false ty).run P w = .ok (.tuple #[.bool false]) w) ∨
    ∃ k v left' w', left.Perm ((k, v) :: left') ∧ (Instr.next (.pointer (some ⟨r, 0, none⟩)) false ty).run P w = .ok (.tuple #[.bool true, .string (bs k), v]) w' ∧
      RngAt w' b r L left' ∧ w.grownBy w' (some r) ∧ w'.heap.size = w.heap.size ∧ (Instr.entry (.pointer (some ⟨r, 0, none⟩))).run P w' = .ok (.tuple #[.string (bs k), v]) w' := by
  have hne := h.ne
  obtain ⟨es, clock, since, seen, c0, hb, hs, hkey, rfl, hr, hold, hsc, hsk, hp⟩ := h
  have hst := (stamped_iff es clock).1 hs
  rcases run_next_at (P := P) w ty r b since c0 seen es clock hr hb hold hsc with ⟨h0, hrun⟩ | ⟨e, he, w1, hal, hrun⟩
  · refine .inl ⟨?_, hrun⟩
    have : (leftOf es seen) = #[] := Array.eq_empty_of_size_eq_zero h0
    rw [this] at hp
    simpa using hp
  · obtain ⟨hem, hes⟩ := Go.mem_left he
    have hkk : e.key = .string (bs (dec e).1) := hkey e hem
    have hr1 : w1.heap[r]? = some (.mapIter (some b) since seen c0) := by rcases hal with rfl | rfl <;> exact hr
    have hb1 : w1.heap[b]? = some (.map es clock) := by rcases hal with rfl | rfl <;> exact hb
    have hset := MapKept.heap_set (o' := .mapIter (some b) since (seen.push e.born) clock) hr1
    have hb' : (setBlock w1 r (.mapIter (some b) since (seen.push e.born) clock)).heap[b]? = some (.map es clock) := (hset.2 b (fun e1 => hne e1.symm)).trans hb1
    have hent := run_entry_at (P := P) _ r b since seen es clock e hset.1 hb' hem hst.2.1
    rw [hkk] at hrun hent
    refine .inr ⟨(dec e).1, e.val, (leftOf es (seen.push e.born)).toList.map dec, _, ?_, hrun, ⟨es, clock, since, seen.push e.born, clock, hb', hs, hkey, rfl, hset.1, hold, hsk, hsk, List.Perm.refl _⟩, ?_, ?_, hent⟩
    · exact hp.trans ((leftOf_push hst.2.1 he).map dec)
    · rcases hal with rfl | rfl <;> exact ⟨rfl, rfl, rfl, by simp [setBlock], fun i _ hi => hset.2 i (fun e1 => hi (by rw [e1]))⟩
    · rcases hal with rfl | rfl <;> simp [setBlock]
end
section
variable {P : Program} (w : World) {ops : Array Oper} {rest : List Oper} {o : Oper} {a : Act} {Q : Exit → Act → World → Prop}
theorem wpList_lookup_m (hg : o.guard = none) (m x : Operand) (t : TypeId) (hop : o.op = Op.lookup t m x false) (K E : TypeId) (ht : P.underlying t = some (.map K E)) (hk : P.underlying K = some .string) (z : Value) (hz : (zeroValue E).run P w = .ok z w)
    (b : Nat) (L : List (Tx × Value)) (hm : a.eval m = .map (some b)) (h : MapAt w b L) (k : Tx) (s : ByteArray) (hx : a.eval x = .string s) (hs : bs k = s) (u : Value) (hu : (look L k).getD z = u)
    (hK : wpList P ops Q rest (a.put o.dst u) w) : wpList P ops Q (o :: rest) a w := by
  refine wpList_plain hg fun K' hK' => ?_
  subst hs; subst hu
  have hrun := h.lookup ht hk hz k false
  unfold Oper.wp
  simp [execOp, hop, hm, hx, hrun, Result.andThen]
  exact hK' _ _ hK
theorem wpList_lookup_mok (hg : o.guard = none) (m x : Operand) (t : TypeId) (hop : o.op = Op.lookup t m x true) (K E : TypeId) (ht : P.underlying t = some (.map K E)) (hk : P.underlying K = some .string) (z : Value) (hz : (zeroValue E).run P w = .ok z w)
    (b : Nat) (L : List (Tx × Value)) (hm : a.eval m = .map (some b)) (h : MapAt w b L) (k : Tx) (s : ByteArray) (hx : a.eval x = .string s) (hs : bs k = s) (u : Value) (hu : (look L k).getD z = u) (ok : Bool) (hok : (look L k).isSome = ok)
    (hK : wpList P ops Q rest (a.put o.dst (.tuple #[u, .bool ok])) w) : wpList P ops Q (o :: rest) a w := by
  refine wpList_plain hg fun K' hK' => ?_
  subst hs; subst hu; subst hok
  have hrun := h.lookup ht hk hz k true
  unfold Oper.wp
  simp [execOp, hop, hm, hx, hrun, Result.andThen]
  exact hK' _ _ hK
theorem wpList_mapUpdate_m (hg : o.guard = none) (m x v : Operand) (t : TypeId) (hop : o.op = Op.mapUpdate t m x v) (K E : TypeId) (ht : P.underlying t = some (.map K E)) (hk : P.underlying K = some .string)
    (b : Nat) (L : List (Tx × Value)) (hm : a.eval m = .map (some b)) (h : MapAt w b L) (k : Tx) (s : ByteArray) (hx : a.eval x = .string s) (hs : bs k = s) (u : Value) (hv : a.eval v = u)
    (hK : ∀ w', MapAt w' b (ups L k u) → w.grownBy w' (some b) → w'.heap.size = w.heap.size → wpList P ops Q rest (a.put o.dst undef) w') : wpList P ops Q (o :: rest) a w := by
  refine wpList_plain hg fun K' hK' => ?_
  subst hs; subst hv
  obtain ⟨w', hrun, r1, r2, r3⟩ := h.update ht hk k (a.eval v)
  unfold Oper.wp
  simp [execOp, hop, hm, hx, hrun, Result.andThen]
  exact hK' _ _ (hK w' r1 r2 r3)
theorem wpList_delete_m (hg : o.guard = none) (m x : Operand) (t K : TypeId) (hop : o.op = Op.call { callee := Callee.builtin Builtin.delete, args := #[m, x], argTypes := #[t, K] }) (E : TypeId) (ht : P.underlying t = some (.map K E)) (hk : P.underlying K = some .string)
    (b : Nat) (L : List (Tx × Value)) (hm : a.eval m = .map (some b)) (h : MapAt w b L) (k : Tx) (s : ByteArray) (hx : a.eval x = .string s) (hs : bs k = s)
    (hK : ∀ w', MapAt w' b (dels L k) → w.grownBy w' (some b) → w'.heap.size = w.heap.size → wpList P ops Q rest (a.put o.dst (.tuple #[])) w') : wpList P ops Q (o :: rest) a w := by
  refine wpList_plain hg fun K' hK' => ?_
  subst hs
  obtain ⟨w', hrun, r1, r2, r3⟩ := h.delete (ty := o.type) ht hk k
  unfold Oper.wp
  simp [execOp, hop, resolve, invoke, builtin, hm, hx, hrun, Result.andThen]
  exact hK' _ _ (hK w' r1 r2 r3)
theorem wpList_len_m (hg : o.guard = none) (m : Operand) (t : TypeId) (hop : o.op = Op.call { callee := Callee.builtin Builtin.len, args := #[m], argTypes := #[t] }) (K E : TypeId) (ht : P.underlying t = some (.map K E))
    (b : Nat) (L : List (Tx × Value)) (hm : a.eval m = .map (some b)) (h : MapAt w b L) (n : Nat) (hn : L.length = n) (hK : wpList P ops Q rest (a.put o.dst (.int .i64 (n : Int))) w) : wpList P ops Q (o :: rest) a w := by
  refine wpList_plain hg fun K' hK' => ?_
  subst hn
  unfold Oper.wp
  simp [execOp, hop, resolve, invoke, builtin, hm, h.len ht o.type, Result.andThen]
  exact hK' _ _ hK
theorem wpList_range_m (hg : o.guard = none) (m : Operand) (t : TypeId) (hop : o.op = Op.range t m) (K E : TypeId) (ht : P.underlying t = some (.map K E)) (b : Nat) (L : List (Tx × Value)) (hm : a.eval m = .map (some b)) (h : MapAt w b L)
    (hK : ∀ w', RngAt w' b w.heap.size L L → w.grownBy w' none → w'.heap.size = w.heap.size + 1 → wpList P ops Q rest (a.put o.dst (.pointer (some ⟨w.heap.size, 0, none⟩))) w') : wpList P ops Q (o :: rest) a w := by
  refine wpList_plain hg fun K' hK' => ?_
  obtain ⟨w', hrun, r1, r2, r3⟩ := h.range ht
  unfold Oper.wp
  simp [execOp, hop, hm, hrun, Result.andThen]
  exact hK' _ _ (hK w' r1 r2 r3)
theorem wpList_next_m (hg : o.guard = none) (it : Operand) (hop : o.op = Op.next it false) (b r : Nat) (L left : List (Tx × Value)) (hit : a.eval it = .pointer (some ⟨r, 0, none⟩)) (h : RngAt w b r L left)
    (hDone : left = [] → wpList P ops Q rest (a.put o.dst (.tuple #[.bool false])) w)
    (hMore : ∀ (k : Tx) (v : Value) (left' : List (Tx × Value)) (w' : World), left.Perm ((k, v) :: left') → RngAt w' b r L left' → w.grownBy w' (some r) → w'.heap.size = w.heap.size →
      (Instr.entry (.pointer (some ⟨r, 0, none⟩))).run P w' = .ok (.tuple #[.string (bs k), v]) w' → wpList P ops Q rest (a.put o.dst (.tuple #[.bool true, .string (bs k), v])) w') :
    wpList P ops Q (o :: rest) a w := by
  refine wpList_plain hg fun K' hK' => ?_
  unfold Oper.wp
  rcases h.next (P := P) o.type with ⟨h0, hrun⟩ | ⟨k, v, left', w', hp, hrun, r1, r2, r3, r4⟩
  · simp [execOp, hop, hit, hrun, Result.andThen]
    exact hK' _ _ (hDone h0)
  · simp [execOp, hop, hit, hrun, Result.andThen]
    exact hK' _ _ (hMore k v left' w' hp r1 r2 r3 r4)
end
section
variable {F : Fence} {n : Nat} {P : Program} (w : World) {ops : Array Oper} {rest : List Oper} {o : Oper} {a : Act} {Q : Exit → Act → World → Prop}
theorem wpListIn_range_m (hg : o.guard = none) (m : Operand) (t : TypeId) (hop : o.op = Op.range t m) (K E : TypeId) (ht : P.underlying t = some (.map K E)) (b : Nat) (L : List (Tx × Value)) (hm : a.eval m = .map (some b)) (h : MapAt w b L)
    (hK : ∀ w', RngAt w' b w.heap.size L L → w.grownBy w' none → w'.heap.size = w.heap.size + 1 → wpListIn F n P ops Q rest (a.put o.dst (.pointer (some ⟨w.heap.size, 0, none⟩))) w') : wpListIn F n P ops Q (o :: rest) a w := by
  refine wpListIn_plain hg fun K' hK' => ?_
  obtain ⟨w', hrun, r1, r2, r3⟩ := h.range ht
  unfold Oper.wpIn
  refine ⟨by simp [Oper.about, hop], ?_⟩
  rw [Oper.semAt_plain F _ _ (by rw [hop]; intro c hc'; cases hc')]
  simp [execOp, hop, hm, hrun, Result.andThen]
  exact hK' _ _ (hK w' r1 r2 r3)
theorem wpListIn_next_m (hg : o.guard = none) (it : Operand) (hop : o.op = Op.next it false) (b r : Nat) (L left : List (Tx × Value)) (hit : a.eval it = .pointer (some ⟨r, 0, none⟩)) (h : RngAt w b r L left)
    (hDone : left = [] → wpListIn F n P ops Q rest (a.put o.dst (.tuple #[.bool false])) w)
    (hMore : ∀ (k : Tx) (v : Value) (left' : List (Tx × Value)) (w' : World), left.Perm ((k, v) :: left') → RngAt w' b r L left' → w.grownBy w' (some r) → w'.heap.size = w.heap.size →
      (Instr.entry (.pointer (some ⟨r, 0, none⟩))).run P w' = .ok (.tuple #[.string (bs k), v]) w' → wpListIn F n P ops Q rest (a.put o.dst (.tuple #[.bool true, .string (bs k), v])) w') :
    wpListIn F n P ops Q (o :: rest) a w := by
  refine wpListIn_plain hg fun K' hK' => ?_
  unfold Oper.wpIn
  refine ⟨by simp [Oper.about, hop], ?_⟩
  rw [Oper.semAt_plain F _ _ (by rw [hop]; intro c hc'; cases hc')]
  rcases h.next (P := P) o.type with ⟨h0, hrun⟩ | ⟨k, v, left', w', hp, hrun, r1, r2, r3, r4⟩
  · simp [execOp, hop, hit, hrun, Result.andThen]
    exact hK' _ _ (hDone h0)
  · simp [execOp, hop, hit, hrun, Result.andThen]
    exact hK' _ _ (hMore k v left' w' hp r1 r2 r3 r4)
end
end Go.Proofs.YtmifpfojhlmbkaaGreat
