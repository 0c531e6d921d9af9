/-
  Contracts of law10's light and Plain.
-/
import Derived.Test.YtifjbbiphekmmaaGreatDoorFMem
import Derived.Test.YtifjbbiphekmmaaGreatDoorEHas
import Derived.Laws.Rows
namespace Go.Proofs.YtifjbbiphekmmaaGreatDoor
open Go.RowKit
set_option linter.unusedVariables false
set_option linter.unusedSimpArgs false

def lightT (e : TmT) : Prop := e.n ≤ 30 ∧ e.name.length ≤ 100 ∧ ∀ v ∈ e.l, v.length ≤ 100
instance (e : TmT) : Decidable (lightT e) := inferInstanceAs (Decidable (_ ∧ _ ∧ _))
theorem short_snocT {l : List Tx} {j : Nat} (h : j < l.length) (k : ∀ v ∈ l.take j, v.length ≤ 100) (h1 : (l.getD j []).length ≤ 100) : ∀ v ∈ l.take (j + 1), v.length ≤ 100 := by
  rw [List.take_succ_eq_append_getElem h]
  intro v hv
  rcases List.mem_append.1 hv with hv | hv
  · exact k v hv
  · rw [List.mem_singleton] at hv
    rw [hv, ← getD_get h]; exact h1

set_option maxHeartbeats 2000000 in
theorem light10_any (e : TmT) (w : World) (h : TmOk w e) : Calls Tryz.prog 9 #[tmV e] w fun r w' => r = .returned (.bool (decide (lightT e))) ∧ Below w.heap.size w w' := by
  obtain ⟨nm, ng, a, n, c, l⟩ := e
  have HS := Lib.hid (show TxAt w a n c l from h)
  have HL := Lib.hid h.1
  have h63 := h.2.2.1
  clear h
  unfold tmV
  simp only at HL HS h63 ⊢
  by_cases hn : n ≤ 30
  · have hnz : decide ((30 : Int) < (n : Int)) = false := decide_eq_false (by omega)
    by_cases hm : nm.length ≤ 100
    · have hmz : decide ((100 : Int) < ((bs nm).size : Int)) = false := decide_eq_false (by rw [bs_size]; omega)
      have HY : Hid ((∀ v ∈ l, v.length ≤ 100) → lightT ⟨nm, ng, a, n, c, l⟩) := Lib.hid fun h => ⟨hn, hm, h⟩
      have X0 := Lib.hid (BoxT.new 24 w ⟨nm, ng, a, n, c, l⟩)
      have B0 := Lib.hid ((Below.refl w.heap.size w).alloc (Nat.le_refl _) (.cells #[.string (bs nm), .bool ng, .slice a n c] 24))
      have HS0 := Lib.hid (HS.out.keep B0.out)
      simp only at X0
      have hmn : ¬ 100 < (bs nm).size := by rw [bs_size]; omega
      clear hm
      go_enter Tryz.func9, Tryz.ntmps9
      go_wp2_with fail
      generalize w.alloc (.cells #[.string (bs nm), .bool ng, .slice a n c] 24) = W0 at *
      go_loopw [3] (fun i wr => ∃ j : Nat, j ≤ n ∧ i = .int .i64 (j : Int) ∧ Hid (∀ v ∈ l.take j, v.length ≤ 100) ∧ W0 = wr) (fun i _ => n - (intOf i).toNat)
      case atStart => exact ⟨0, by omega, rfl, Lib.hid (by simp), rfl⟩
      case round =>
        obtain ⟨j, hj, rfl, HT, rfl⟩ := hrel
        have x2 := X0.out.x2
        by_cases hjn : j < n
        · obtain ⟨p, o, rfl, hp, y0⟩ := HS0.out.at_ j hjn
          have hlt : (j : Int) < (n : Int) := by omega
          by_cases hv : (l.getD j []).length ≤ 100
          · have HN := Lib.hid (short_snocT (by rw [HL.out]; exact hjn) HT.out hv)
            have hvz : decide ((100 : Int) < ((bs (l.getD j [])).size : Int)) = false := decide_eq_false (by rw [bs_size]; omega)
            have hvn : ¬ 100 < (bs (l.getD j [])).size := by rw [bs_size]; omega
            clear hv HT
            generalize bs (l.getD j []) = v at *
            go_wp2
            go_roundw
            case rel => exact ⟨j + 1, by omega, by go_num, HN, trivial⟩
            case measure => simp [intOf]; omega
          · have HN := Lib.hid (show ¬ lightT ⟨nm, ng, some ⟨p, o, none⟩, n, c, l⟩ from fun h => hv (h.2.2 _ (getD_in (by rw [HL.out]; exact hjn))))
            have hvz : decide ((100 : Int) < ((bs (l.getD j [])).size : Int)) = true := decide_eq_true (by rw [bs_size]; omega)
            have hvn : 100 < (bs (l.getD j [])).size := by rw [bs_size]; omega
            clear hv HT
            generalize bs (l.getD j []) = v at *
            go_wp2
            go_ret
            exact ⟨ret_bool (decide_eq_false HN.out).symm, B0.out⟩
        · have HN := Lib.hid (HY.out (by have := HT.out; rwa [List.take_of_length_le (by rw [HL.out]; omega)] at this))
          have hlt : ¬ (j : Int) < (n : Int) := by omega
          go_wp2
          go_ret
          exact ⟨ret_bool (decide_eq_true HN.out).symm, B0.out⟩
    · have hmz : decide ((100 : Int) < ((bs nm).size : Int)) = true := decide_eq_true (by rw [bs_size]; omega)
      have hmn : 100 < (bs nm).size := by rw [bs_size]; omega
      have HN := Lib.hid (show ¬ lightT ⟨nm, ng, a, n, c, l⟩ from fun h => hm h.2.1)
      clear hm
      go_enter Tryz.func9, Tryz.ntmps9
      go_wp2
      go_ret
      exact ⟨ret_bool (decide_eq_false HN.out).symm, (Below.refl _ _).alloc (Nat.le_refl _) _⟩
  · have hnz : decide ((30 : Int) < (n : Int)) = true := decide_eq_true (by omega)
    have HN := Lib.hid (show ¬ lightT ⟨nm, ng, a, n, c, l⟩ from fun h => hn h.1)
    go_enter Tryz.func9, Tryz.ntmps9
    go_wp2
    go_ret
    exact ⟨ret_bool (decide_eq_false HN.out).symm, (Below.refl _ _).alloc (Nat.le_refl _) _⟩

set_option maxRecDepth 100000 in
theorem plain10_any (e : TmT) (w : World) : Calls Tryz.prog 13 #[tmV e] w fun r w' => r = .returned (tmV e) ∧ Below w.heap.size w w' := by
  obtain ⟨nm, ng, a, n, c, l⟩ := e
  unfold tmV
  simp only
  have hsz : (w.alloc (Obj.cells #[.string (bs nm), .bool ng, .slice a n c] 24)).heap.size = w.heap.size + 1 := by rw [World.alloc]; simp
  have HX := heap_new (w.alloc (Obj.cells #[.string (bs nm), .bool ng, .slice a n c] 24)) (Obj.cells #[.string (bs nm), .bool ng, .slice a n c] 30)
  rw [hsz] at HX
  have HX := Lib.hid HX
  have HB := Lib.hid (((Below.refl w.heap.size w).alloc (Nat.le_refl _) (Obj.cells #[.string (bs nm), .bool ng, .slice a n c] 24)).alloc (by omega) (Obj.cells #[.string (bs nm), .bool ng, .slice a n c] 30))
  go_enter Tryz.func13, Tryz.ntmps13
  go_wp2
  refine bodyPost_ret (results_cell_row rfl _ _ _ _ _ _ _ rfl HX.out Tryz.underlying30 rfl rfl) rfl ?_
  exact ⟨rfl, HB.out⟩
end Go.Proofs.YtifjbbiphekmmaaGreatDoor
