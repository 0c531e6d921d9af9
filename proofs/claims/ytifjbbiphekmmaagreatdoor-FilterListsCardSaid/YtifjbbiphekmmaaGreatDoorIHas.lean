/-
  Contract of index.hasName.
-/
import Derived.Test.YtifjbbiphekmmaaGreatDoorISmall
import Derived.Test.YtifjbbiphekmmaaGreatDoorIShelf
import Derived.Lib.SliceRun
namespace Go.Proofs.YtifjbbiphekmmaaGreatDoor
open Go.RowKit Go.Shelf Go.Lib
set_option linter.unusedVariables false
set_option linter.unusedSimpArgs false

def encLb (x : Lb) : List Value := [.string (bs x.1), .string (bs x.2)]
theorem lb_bang {l : List Lb} {j : Nat} (h : j < l.length) : l[j]! = (lN l j, lV l j) := by rw [getElem!_pos l j h]; exact lb_get h
theorem predName (nm : Tx) (B : Nat) (w : World) (hB : B < w.heap.size) (hcell : w.cell? ⟨B, 0, none⟩ = some (.string (bs nm))) :
    PredBelow Tryz.prog 104 #[.pointer (some ⟨B, 0, none⟩)] (fun x => .agg (encLb x).toArray) (fun x => decide (x.1 = nm)) w := fun W x hb => by
  have hc : W.cell? ⟨B, 0, none⟩ = some (.string (bs nm)) := (hb.cell (p := ⟨B, 0, none⟩) hB).trans hcell
  have hBW : B < W.heap.size := Nat.lt_of_lt_of_le hB hb.size
  have hne : B ≠ W.heap.size := by omega
  have he := eq_bs x.1 nm
  have h2 : (W.alloc (.cells #[.string (bs x.1), .string (bs x.2)] 69)).cell? ⟨B, 0, none⟩ = some (.string (bs nm)) := Trn.cell (F := fun _ => False) (.of ((Below.refl _ W).alloc (Nat.le_refl _) _)) hc
  have h3 : BoxL (W.alloc (.cells #[.string (bs x.1), .string (bs x.2)] 69)) W.heap.size x.1 x.2 := heap_new W _
  have h4 := h3.x0
  show Calls Tryz.prog 104 #[.agg #[.string (bs x.1), .string (bs x.2)], .pointer (some ⟨B, 0, none⟩)] W _
  go_enter Tryz.func104, Tryz.ntmps104
  go_wp2
  go_ret
  exact ⟨ret_bool (by first | rfl | exact he), hb.alloc hb.size _⟩

set_option maxRecDepth 100000 in
set_option maxHeartbeats 2000000 in
theorem hasName_any (b off n c : Nat) (l : List Lb) (nm : Tx) (w : World) (h : LbAt w (some ⟨b, off, none⟩) n c l) (hb : b < w.heap.size) :
    Calls Tryz.prog 83 #[.slice (some ⟨b, off, none⟩) n c, .string (bs nm)] w fun e w' => e = .returned (.bool (decide (nm ∈ keysL l))) ∧ Below w.heap.size w w' := by
  have eg : ∀ args w, (callFunc 104 args).run Tryz.prog w = .ok (.enter 104 args) w := enters_of Tryz.func104 (by kernel_rfl) rfl
  have h0 : Below w.heap.size w (w.alloc (.cells #[.string (bs nm)] 9)) := (Below.refl _ w).alloc (Nat.le_refl _) _
  have hl := h.1
  have h63 := h.2.2.1
  have hk := h.keep h0
  have hcon := AnyQ.slices_ContainsFunc sh_laysContainsLb 2 Tryz.isAgg69 Tryz.sizeOf69 encLb (fun _ => rfl) (fun x => decide (x.1 = nm)) 104 #[.pointer (some ⟨w.heap.size, 0, none⟩)] eg b off n c l (w.alloc (.cells #[.string (bs nm)] 9))
    (predName nm w.heap.size _ (by simp) (by rw [cell_of (heap_new w _)]; rfl)) (by omega) h63 (by simp; omega) (fun j hj i v hi => by
      obtain ⟨b', off', e, _, c0, c1⟩ := hk.at_ j (by omega)
      simp only [Option.some.injEq, Addr.mk.injEq] at e
      obtain ⟨rfl, rfl, _⟩ := e
      rw [lb_bang hj] at hi
      match i, hi with
      | 0, hi => simp [encLb] at hi; rw [← hi]; exact c0
      | 1, hi => simp [encLb] at hi; rw [← hi]; exact c1
      | i + 2, hi => simp [encLb] at hi)
  change Calls Tryz.prog 103 _ _ _ at hcon
  have hany : (l.take n).any (fun x => decide (x.1 = nm)) = decide (nm ∈ keysL l) := by
    rw [List.take_of_length_le (by omega)]
    by_cases hm : nm ∈ keysL l
    · rw [decide_eq_true hm]
      obtain ⟨p, hp, e⟩ := List.mem_map.1 hm
      exact List.any_eq_true.2 ⟨p, hp, decide_eq_true e⟩
    · rw [decide_eq_false hm]
      rw [List.any_eq_false]
      intro p hp e
      exact hm (List.mem_map.2 ⟨p, hp, of_decide_eq_true e⟩)
  rw [hany] at hcon
  clear h hk hany
  generalize decide (nm ∈ keysL l) = r at hcon ⊢
  have HC := Lib.hid hcon
  have H0 := Lib.hid h0
  clear hcon h0
  go_enter Tryz.func83, Tryz.ntmps83
  go_wp2_with fail
  refine HC.out.mono ?_
  rintro e w' ⟨rfl, hb'⟩
  go_wp2
  go_ret
  exact ⟨rfl, H0.out.trans (hb'.mono H0.out.size)⟩

end Go.Proofs.YtifjbbiphekmmaaGreatDoor
