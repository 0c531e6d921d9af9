/-
  Contracts of the document's Word and Right.
-/
import Derived.Test.YtifjbbiphekmmaaGreatDoorFWord
namespace Go.Proofs.YtifjbbiphekmmaaGreatDoor
open Go.RowKit
set_option linter.unusedVariables false
set_option linter.unusedSimpArgs false

theorem spec_cases (x : UInt8) : (x = 61 ∨ x = 33 ∨ x = 40 ∨ x = 41 ∨ x = 44) ∨ (x ∉ specL ∧ ((x.toNat : Int) == 61) = false ∧ ((x.toNat : Int) == 33) = false ∧ ((x.toNat : Int) == 40) = false ∧ ((x.toNat : Int) == 41) = false ∧ ((x.toNat : Int) == 44) = false) := by
  by_cases h : x ∈ specL
  · left; simpa [specL] using h
  · right
    have k : ∀ y : UInt8, y ∈ specL → ∀ n : Nat, y.toNat = n → ((x.toNat : Int) == (n : Int)) = false := fun y hy n hn => beq_eq_false_iff_ne.2 fun e => by
      have : x = y := UInt8.toNat_inj.1 (by omega)
      exact h (this ▸ hy)
    exact ⟨h, k 61 (by decide) 61 rfl, k 33 (by decide) 33 rfl, k 40 (by decide) 40 rfl, k 41 (by decide) 41 rfl, k 44 (by decide) 44 rfl⟩
theorem bs_at (s : Tx) (j : Nat) (h : j < (bs s).size) (h2 : j < s.length) : (bs s)[j]'h = s[j]'h2 := by
  show (bs s).data[j]'h = _
  simp [bs]
theorem none_snoc {s : Tx} {j : Nat} (h : j < s.length) (k : ∀ b ∈ s.take j, b ∉ specL) (h1 : s[j]'h ∉ specL) : ∀ b ∈ s.take (j + 1), b ∉ specL := by
  rw [List.take_succ_eq_append_getElem h]
  intro v hv
  rcases List.mem_append.1 hv with hv | hv
  · exact k v hv
  · rw [List.mem_singleton] at hv
    rw [hv]; exact h1

set_option maxHeartbeats 1600000 in
theorem rword_any (s : Tx) (w : World) (hs : s.length ≤ 1000000) : Calls Tryz.prog 17 #[.string (bs s)] w fun e w' => e = .returned (.bool (decide (wordB s))) ∧ w = w' := by
  have hz := bs_size s
  have HZ := Lib.hid hz
  go_enter Tryz.func17, Tryz.ntmps17
  go_wp2
  go_loopw [3] (fun i wr => ∃ j : Nat, j ≤ s.length ∧ i = .int .i64 (j : Int) ∧ Hid (∀ b ∈ s.take j, b ∉ specL) ∧ w = wr) (fun i _ => s.length - (intOf i).toNat)
  case atStart => exact ⟨0, by omega, rfl, Lib.hid (by simp), rfl⟩
  case round =>
    obtain ⟨j, hj, rfl, HT, rfl⟩ := hrel
    by_cases hjn : j < s.length
    · have hjs : j < (bs s).size := by omega
      have HX := Lib.hid (bs_at s j hjs hjn)
      obtain ⟨x, hx⟩ : ∃ x : UInt8, (bs s)[j]'hjs = x := ⟨_, rfl⟩
      rw [hx] at HX
      rcases spec_cases x with hc | ⟨hc, c1, c2, c3, c4, c5⟩
      · have HN := Lib.hid (show ¬ wordB s from fun h => h.2 x (by rw [HX.out]; exact List.getElem_mem _) (by rcases hc with h | h | h | h | h <;> (rw [h]; decide)))
        rcases hc with h | h | h | h | h
        all_goals
          subst h
          go_wp2
          go_ret
          exact ⟨ret_bool (decide_eq_false HN.out).symm, rfl⟩
      · have HN := Lib.hid (none_snoc hjn HT.out (by rw [← HX.out]; exact hc))
        clear hc HX HT
        go_wp2
        go_roundw
        case rel => exact ⟨j + 1, by omega, by go_num, HN, trivial⟩
        case measure => simp [intOf]; omega
    · have HN := Lib.hid (show ∀ b ∈ s, b ∉ specL by have := HT.out; rwa [List.take_of_length_le (by omega)] at this)
      have hlt : ¬ (j : Int) < ((bs s).size : Int) := by omega
      by_cases h1 : 1 ≤ s.length
      · have h1z : decide ((1 : Int) ≤ ((bs s).size : Int)) = true := decide_eq_true (by omega)
        go_wp2
        go_ret
        exact ⟨ret_bool (decide_eq_decide.2 (by unfold wordB keyB; exact ⟨fun h => ⟨⟨h1, by omega⟩, HN.out⟩, fun h => by have := h.1.2; omega⟩)), rfl⟩
      · have h1z : decide ((1 : Int) ≤ ((bs s).size : Int)) = false := decide_eq_false (by omega)
        go_wp2
        go_ret
        exact ⟨ret_bool (decide_eq_false (fun h => h1 h.1.1)).symm, rfl⟩

set_option maxHeartbeats 1600000 in
theorem rright10_any (e : TmT) (w : World) (h : TmOk w e) (hn : e.name.length ≤ 1000000) (hv : ∀ v ∈ e.l, v.length ≤ 1000000) (hl : e.n ≤ 1000000) : Calls Tryz.prog 15 #[tmV e] w fun r w' => r = .returned (.bool (decide (rightT e.trm))) ∧ Below w.heap.size w w' := by
  obtain ⟨nm, ng, a, n, c, l⟩ := e
  have HS := Lib.hid (show TxAt w a n c l from h)
  have HL := Lib.hid h.1
  have h63 := h.2.2.1
  clear h
  unfold tmV
  simp only at HL HS h63 hn hv hl ⊢
  have HV := Lib.hid hv
  clear hv
  go_enter Tryz.func15, Tryz.ntmps15
  go_wp2_with fail
  have X0 := Lib.hid (BoxT.new 30 w ⟨nm, ng, a, n, c, l⟩)
  have B0 := Lib.hid ((Below.refl w.heap.size w).alloc (Nat.le_refl _) (.cells #[.string (bs nm), .bool ng, .slice a n c] 30))
  simp only at X0
  generalize w.alloc (.cells #[.string (bs nm), .bool ng, .slice a n c] 30) = W0 at *
  have HS0 := Lib.hid (HS.out.keep B0.out)
  go_loopw [3] (fun i wr => ∃ j : Nat, j ≤ n ∧ i = .int .i64 (j : Int) ∧ Hid (∀ v ∈ l.take j, wordB v) ∧ W0 = wr) (fun i _ => n - (intOf i).toNat)
  case atStart => exact ⟨0, by omega, rfl, Lib.hid (by simp), rfl⟩
  case round =>
    obtain ⟨j, hj, rfl, HT, rfl⟩ := hrel
    have x2 := X0.out.x2
    have x0 := X0.out.x0
    by_cases hjn : j < n
    · obtain ⟨p, o, rfl, hp, y0⟩ := HS0.out.at_ j hjn
      have HR := Lib.hid (fun W => rword_any (l.getD j []) W (HV.out _ (getD_in (by rw [HL.out]; exact hjn))))
      by_cases hv : wordB (l.getD j [])
      · rw [decide_eq_true hv] at HR
        have HN := Lib.hid (words_snoc (by rw [HL.out]; exact hjn) HT.out hv)
        clear hv HT
        generalize bs (l.getD j []) = v at *
        go_wp2_with fail
        refine (HR.out _).mono ?_
        rintro e w2 ⟨rfl, rfl⟩
        go_wp2
        go_roundw
        case rel => exact ⟨j + 1, by omega, by go_num, HN, trivial⟩
        case measure => simp [intOf]; omega
      · rw [decide_eq_false hv] at HR
        have HN := Lib.hid (right_no_word (e := ⟨nm, ng, some ⟨p, o, none⟩, n, c, l⟩) (by rw [show _ = _ from HL.out]; exact hjn) hv)
        clear hv HT
        generalize bs (l.getD j []) = v at *
        go_wp2_with fail
        refine (HR.out _).mono ?_
        rintro e w2 ⟨rfl, rfl⟩
        go_wp2
        go_ret
        exact ⟨ret_bool (decide_eq_false HN.out).symm, B0.out⟩
    · have HN := Lib.hid (show ∀ v ∈ l, wordB v by have := HT.out; rwa [List.take_of_length_le (by rw [HL.out]; omega)] at this)
      have hlt : ¬ (j : Int) < (n : Int) := by omega
      have HR := Lib.hid (fun W => rword_any nm W hn)
      have HD : Hid (rightT (nm, ng, l) ↔ wordB nm ∧ n ≤ 16) := Lib.hid ⟨fun h => ⟨h.2.1, by have := h.1; rw [show l.length = n from HL.out] at this; exact this⟩, fun h => ⟨by show l.length ≤ 16; rw [HL.out]; exact h.2, h.1, HN.out⟩⟩
      by_cases hw : wordB nm
      · rw [decide_eq_true hw] at HR
        have HD2 := Lib.hid (HD.out.trans (and_iff_right hw))
        clear hw
        go_wp2_with fail
        refine (HR.out _).mono ?_
        rintro e w2 ⟨rfl, rfl⟩
        go_wp2
        go_ret
        exact ⟨ret_bool (decide_eq_decide.2 ⟨fun h => HD2.out.2 (by omega), fun h => by have := HD2.out.1 h; omega⟩), B0.out⟩
      · rw [decide_eq_false hw] at HR
        have HN2 := Lib.hid (show ¬ rightT (nm, ng, l) from fun h => hw h.2.1)
        clear hw
        go_wp2_with fail
        refine (HR.out _).mono ?_
        rintro e w2 ⟨rfl, rfl⟩
        go_wp2
        go_ret
        exact ⟨ret_bool (decide_eq_false HN2.out).symm, B0.out⟩
end Go.Proofs.YtifjbbiphekmmaaGreatDoor
