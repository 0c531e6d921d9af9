/-
  Contracts of slices.Equal of texts, of filter.Same and of the document's Same.
-/
import Derived.Test.YtifjbbiphekmmaaGreatDoorFShelf3
import Derived.Test.YtifjbbiphekmmaaGreatDoorFMem
import Derived.Test.YtifjbbiphekmmaaGreatDoorEHas
namespace Go.Proofs.YtifjbbiphekmmaaGreatDoor
open Go.RowKit Go.Shelf Go.Lib
set_option linter.unusedVariables false
set_option linter.unusedSimpArgs false

theorem map_bs_inj {l m : List Tx} (h : l.map bs = m.map bs) : l = m := by
  have := congrArg (List.map tx) h
  simpa [List.map_map, Function.comp_def, tx_bs] using this
theorem equal10_any (a : Option Addr) (n c : Nat) (l : List Tx) (a' : Option Addr) (n' c' : Nat) (l' : List Tx) (w : World) (h : TxAt w a n c l) (h' : TxAt w a' n' c' l') :
    Calls Tryz.prog 38 #[.slice a n c, .slice a' n' c'] w fun e w' => e = .returned (.bool (decide (l = l'))) ∧ Drew w w' := by
  obtain ⟨h1, h2, h3, h4⟩ := h
  obtain ⟨k1, k2, k3, k4⟩ := h'
  by_cases hn : n = n'
  · subst hn
    rcases h4 with h0 | ⟨b, off, rfl, hlt, hc⟩
    · subst h0
      refine (sh_slices_Equal_string_empty a a' c 0 c' w (by omega)).mono ?_
      rintro e w' ⟨rfl, hw⟩
      subst hw
      have e1 : l = [] := List.eq_nil_of_length_eq_zero h1
      have e2 : l' = [] := List.eq_nil_of_length_eq_zero k1
      exact ⟨by rw [e1, e2]; rfl, 0, rfl⟩
    · rcases k4 with k0 | ⟨b', off', rfl, hlt', hc'⟩
      · subst k0
        refine (sh_slices_Equal_string_empty (some ⟨b, off, none⟩) a' c 0 c' w (by omega)).mono ?_
        rintro e w' ⟨rfl, hw⟩
        subst hw
        have e1 : l = [] := List.eq_nil_of_length_eq_zero h1
        have e2 : l' = [] := List.eq_nil_of_length_eq_zero k1
        exact ⟨by rw [e1, e2]; rfl, 0, rfl⟩
      · refine (sh_slices_Equal_string b off n c b' off' n c' (l.map bs) (l'.map bs) w (by simp; omega) (by simp; omega) h3 k3 (fun j hj => ?_) (fun j hj => ?_)).mono ?_
        · simp only [List.length_map] at hj
          rw [hc j (by omega), getD_get hj, List.getD_eq_getElem?_getD, List.getElem?_map, List.getElem?_eq_getElem hj]; rfl
        · simp only [List.length_map] at hj
          rw [hc' j (by omega), getD_get hj, List.getD_eq_getElem?_getD, List.getElem?_map, List.getElem?_eq_getElem hj]; rfl
        · rintro e w' ⟨rfl, q, rfl⟩
          refine ⟨ret_bool (decide_eq_decide.2 ?_), q, rfl⟩
          rw [List.take_of_length_le (by simp; omega), List.take_of_length_le (by simp; omega)]
          exact ⟨map_bs_inj, fun e => by rw [e]⟩
  · refine (sh_slices_Equal_string_lens a a' n c n' c' w hn).mono ?_
    rintro e w' ⟨rfl, hw⟩
    subst hw
    exact ⟨ret_bool (decide_eq_false (fun e => hn (by rw [← h1, ← k1, e]))).symm, 0, rfl⟩

theorem trm_eq (e f : TmT) : e.trm = f.trm ↔ e.name = f.name ∧ e.neg = f.neg ∧ e.l = f.l := by
  unfold TmT.trm
  simp [Prod.mk.injEq]

set_option maxHeartbeats 1600000 in
theorem same10_any (e f : TmT) (w : World) (h : TmOk w e) (h' : TmOk w f) :
    Calls Tryz.prog 18 #[tmV e, tmV f] w fun r w' => r = .returned (.bool (decide (e.trm = f.trm))) ∧ Below w.heap.size w w' := by
  have HD := Lib.hid (trm_eq e f)
  obtain ⟨nm, ng, a, n, c, l⟩ := e
  obtain ⟨nm', ng', a', n', c', l'⟩ := f
  simp only at HD
  unfold tmV
  simp only
  have X0 := Lib.hid (BoxT.new 24 w ⟨nm, ng, a, n, c, l⟩)
  have B0 := Lib.hid ((Below.refl w.heap.size w).alloc (Nat.le_refl _) (.cells #[.string (bs nm), .bool ng, .slice a n c] 24))
  simp only at X0
  have B1 := Lib.hid (B0.out.alloc B0.out.size (.cells #[.string (bs nm'), .bool ng', .slice a' n' c'] 24))
  have HQ := Lib.hid (equal10_any a n c l a' n' c' l' _ (TxAt.keep (show TxAt w a n c l from h) B1.out) (TxAt.keep (show TxAt w a' n' c' l' from h') B1.out))
  clear h h'
  have he := eq_bs nm nm'
  by_cases h1 : nm = nm'
  · rw [decide_eq_true h1] at he
    cases ng <;> cases ng'
    · have HR : Hid (decide ((⟨nm, false, a, n, c, l⟩ : TmT).trm = (⟨nm', false, a', n', c', l'⟩ : TmT).trm) = decide (l = l')) := Lib.hid (decide_eq_decide.2 (HD.out.trans ⟨fun h => h.2.2, fun h => ⟨h1, rfl, h⟩⟩))
      clear h1 HD
      generalize decide (l = l') = r at *
      go_enter Tryz.func18, Tryz.ntmps18
      go_wp2_with fail
      refine HQ.out.mono ?_
      rintro e w' ⟨rfl, hd⟩
      go_wp2
      go_ret
      exact ⟨ret_bool HR.out.symm, B1.out.trans (hd.bel.mono B1.out.size)⟩
    · have HR : Hid (decide ((⟨nm, false, a, n, c, l⟩ : TmT).trm = (⟨nm', true, a', n', c', l'⟩ : TmT).trm) = false) := Lib.hid (decide_eq_false (fun h => by have := (HD.out.1 h).2.1; simp at this))
      clear h1 HD HQ
      go_enter Tryz.func18, Tryz.ntmps18
      go_wp2
      go_ret
      exact ⟨ret_bool HR.out.symm, B1.out⟩
    · have HR : Hid (decide ((⟨nm, true, a, n, c, l⟩ : TmT).trm = (⟨nm', false, a', n', c', l'⟩ : TmT).trm) = false) := Lib.hid (decide_eq_false (fun h => by have := (HD.out.1 h).2.1; simp at this))
      clear h1 HD HQ
      go_enter Tryz.func18, Tryz.ntmps18
      go_wp2
      go_ret
      exact ⟨ret_bool HR.out.symm, B1.out⟩
    · have HR : Hid (decide ((⟨nm, true, a, n, c, l⟩ : TmT).trm = (⟨nm', true, a', n', c', l'⟩ : TmT).trm) = decide (l = l')) := Lib.hid (decide_eq_decide.2 (HD.out.trans ⟨fun h => h.2.2, fun h => ⟨h1, rfl, h⟩⟩))
      clear h1 HD
      generalize decide (l = l') = r at *
      go_enter Tryz.func18, Tryz.ntmps18
      go_wp2_with fail
      refine HQ.out.mono ?_
      rintro e w' ⟨rfl, hd⟩
      go_wp2
      go_ret
      exact ⟨ret_bool HR.out.symm, B1.out.trans (hd.bel.mono B1.out.size)⟩
  · rw [decide_eq_false h1] at he
    have HR : Hid (decide ((⟨nm, ng, a, n, c, l⟩ : TmT).trm = (⟨nm', ng', a', n', c', l'⟩ : TmT).trm) = false) := Lib.hid (decide_eq_false (fun h => h1 (HD.out.1 h).1))
    clear h1 HD HQ
    go_enter Tryz.func18, Tryz.ntmps18
    go_wp2
    go_ret
    exact ⟨ret_bool HR.out.symm, B1.out⟩
set_option maxHeartbeats 1600000 in
theorem rsame10_any (e f : TmT) (w : World) (h : TmOk w e) (h' : TmOk w f) :
    Calls Tryz.prog 19 #[tmV e, tmV f] w fun r w' => r = .returned (.bool (decide (e.trm = f.trm))) ∧ Below w.heap.size w w' := by
  have HD := Lib.hid (trm_eq e f)
  obtain ⟨nm, ng, a, n, c, l⟩ := e
  obtain ⟨nm', ng', a', n', c', l'⟩ := f
  simp only at HD
  unfold tmV
  simp only
  have X0 := Lib.hid (BoxT.new 30 w ⟨nm, ng, a, n, c, l⟩)
  have B0 := Lib.hid ((Below.refl w.heap.size w).alloc (Nat.le_refl _) (.cells #[.string (bs nm), .bool ng, .slice a n c] 30))
  simp only at X0
  have B1 := Lib.hid (B0.out.alloc B0.out.size (.cells #[.string (bs nm'), .bool ng', .slice a' n' c'] 30))
  have HQ := Lib.hid (same8_any a n c l a' n' c' l' _ (TxAt.keep (show TxAt w a n c l from h) B1.out) (TxAt.keep (show TxAt w a' n' c' l' from h') B1.out))
  clear h h'
  have he := eq_bs nm nm'
  by_cases h1 : nm = nm'
  · rw [decide_eq_true h1] at he
    cases ng <;> cases ng'
    · have HR : Hid (decide ((⟨nm, false, a, n, c, l⟩ : TmT).trm = (⟨nm', false, a', n', c', l'⟩ : TmT).trm) = decide (l = l')) := Lib.hid (decide_eq_decide.2 (HD.out.trans ⟨fun h => h.2.2, fun h => ⟨h1, rfl, h⟩⟩))
      clear h1 HD
      generalize decide (l = l') = r at *
      go_enter Tryz.func19, Tryz.ntmps19
      go_wp2_with fail
      refine HQ.out.mono ?_
      rintro e w' ⟨rfl, hd⟩
      go_wp2
      go_ret
      exact ⟨ret_bool HR.out.symm, B1.out.trans (hd.bel.mono B1.out.size)⟩
    · have HR : Hid (decide ((⟨nm, false, a, n, c, l⟩ : TmT).trm = (⟨nm', true, a', n', c', l'⟩ : TmT).trm) = false) := Lib.hid (decide_eq_false (fun h => by have := (HD.out.1 h).2.1; simp at this))
      clear h1 HD HQ
      go_enter Tryz.func19, Tryz.ntmps19
      go_wp2
      go_ret
      exact ⟨ret_bool HR.out.symm, B1.out⟩
    · have HR : Hid (decide ((⟨nm, true, a, n, c, l⟩ : TmT).trm = (⟨nm', false, a', n', c', l'⟩ : TmT).trm) = false) := Lib.hid (decide_eq_false (fun h => by have := (HD.out.1 h).2.1; simp at this))
      clear h1 HD HQ
      go_enter Tryz.func19, Tryz.ntmps19
      go_wp2
      go_ret
      exact ⟨ret_bool HR.out.symm, B1.out⟩
    · have HR : Hid (decide ((⟨nm, true, a, n, c, l⟩ : TmT).trm = (⟨nm', true, a', n', c', l'⟩ : TmT).trm) = decide (l = l')) := Lib.hid (decide_eq_decide.2 (HD.out.trans ⟨fun h => h.2.2, fun h => ⟨h1, rfl, h⟩⟩))
      clear h1 HD
      generalize decide (l = l') = r at *
      go_enter Tryz.func19, Tryz.ntmps19
      go_wp2_with fail
      refine HQ.out.mono ?_
      rintro e w' ⟨rfl, hd⟩
      go_wp2
      go_ret
      exact ⟨ret_bool HR.out.symm, B1.out.trans (hd.bel.mono B1.out.size)⟩
  · rw [decide_eq_false h1] at he
    have HR : Hid (decide ((⟨nm, ng, a, n, c, l⟩ : TmT).trm = (⟨nm', ng', a', n', c', l'⟩ : TmT).trm) = false) := Lib.hid (decide_eq_false (fun h => h1 (HD.out.1 h).1))
    clear h1 HD HQ
    go_enter Tryz.func19, Tryz.ntmps19
    go_wp2
    go_ret
    exact ⟨ret_bool HR.out.symm, B1.out⟩
end Go.Proofs.YtifjbbiphekmmaaGreatDoor
