/-
  Contracts of package sets' functions that make lists: put, merge, sorted, And, Or, Less, Add, Del.
-/
import Derived.Test.YtifjbbiphekmmaaGreatDoorEOf
import Derived.Test.YtifjbbiphekmmaaGreatDoorEHas
import Derived.Deep.RegionHeld3
namespace Go.Proofs.YtifjbbiphekmmaaGreatDoor
open Go.RowKit
set_option linter.unusedVariables false
set_option linter.unusedSimpArgs false

theorem TRow.mono {w : World} {base base' : Nat} {v : Value} {l : List Tx} (h : TRow w base v l) (hb : base' ≤ base) : TRow w base' v l := by
  refine ⟨h.1, ?_⟩
  rcases h.2 with e | ⟨g, cap, cur, rfl, hbg, r⟩
  · exact .inl e
  · exact .inr ⟨g, cap, cur, rfl, by omega, r⟩
theorem put1_len (b : Bool) (l : List Tx) : (put1 b l).length ≤ l.length := by unfold put1; split <;> simp

/-- What put leaves. -/
def PutP (W0 : World) (l : List Tx) (e : Ending) (w' : World) : Prop := ∃ v, e = .returned v ∧ TRow w' W0.heap.size v l ∧ Below W0.heap.size W0 w'

theorem TxAt.cons {w : World} {a : Option Addr} {n c : Nat} {p : Tx} {l : List Tx} (h : TxAt w a n c (p :: l)) :
    ∃ b off m k, a = some ⟨b, off, none⟩ ∧ n = m + 1 ∧ c = k + 1 ∧ b < w.heap.size ∧ w.cell? ⟨b, off, none⟩ = some (.string (bs p)) ∧
      ∃ a', (∀ W : World, (Instr.slice 22 (.slice (some ⟨b, off, none⟩) (m + 1) (k + 1)) (some (.int .i64 1)) none none).run Tryz.prog W = .ok (.slice a' m k) W) ∧ TxAt w a' m k l := by
  have h1 := h.1
  have h2 := h.2.1
  have h3 := h.2.2.1
  rw [List.length_cons] at h1
  obtain ⟨b, off, rfl, hb, hc⟩ := h.at_ 0 (by omega)
  obtain ⟨a', hr, ht⟩ := h.from_ 1 (by omega)
  obtain ⟨k, rfl⟩ : ∃ k, c = k + 1 := ⟨c - 1, by omega⟩
  subst h1
  exact ⟨b, off, l.length, k, rfl, rfl, rfl, hb, hc, a', hr, ht⟩
theorem mrg_lt {f s b : Bool} {x y : Tx} {xs ys : List Tx} (h : cmpL x y < 0) : mrg f s b (x :: xs) (y :: ys) = put1 f [x] ++ mrg f s b xs (y :: ys) := by
  unfold cmpL at h
  rw [mrg]
  split at h
  · rename_i k; rw [if_pos k]
  · split at h <;> omega
theorem mrg_gt {f s b : Bool} {x y : Tx} {xs ys : List Tx} (h : 0 < cmpL x y) : mrg f s b (x :: xs) (y :: ys) = put1 s [y] ++ mrg f s b (x :: xs) ys := by
  unfold cmpL at h
  rw [mrg]
  split at h
  · omega
  · split at h
    · rename_i k1 k2; rw [if_neg k1, if_pos k2]
    · omega
theorem mrg_eq {f s b : Bool} {x y : Tx} {xs ys : List Tx} (h : cmpL x y = 0) : mrg f s b (x :: xs) (y :: ys) = put1 b [x] ++ mrg f s b xs ys := by
  unfold cmpL at h
  rw [mrg]
  split at h
  · omega
  · split at h
    · omega
    · rename_i k1 k2; rw [if_neg k1, if_neg k2]
def lenV (v : Value) : Nat := match v with | .slice _ n _ => n | _ => 0
theorem cmp_3 (x y : Tx) : cmpL x y = -1 ∨ cmpL x y = 1 ∨ cmpL x y = 0 := by
  unfold cmpL
  split
  · exact .inl rfl
  · split
    · exact .inr (.inl rfl)
    · exact .inr (.inr rfl)


end Go.Proofs.YtifjbbiphekmmaaGreatDoor
