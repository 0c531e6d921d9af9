/-
  Contracts of filter.Word and filter.Right, and of the document's Word and Right.
-/
import Derived.Test.YtifjbbiphekmmaaGreatDoorFAny
import Derived.Test.YtifjbbiphekmmaaGreatDoorISmall
import Derived.Test.YtifjbbiphekmmaaGreatDoorERead
namespace Go.Proofs.YtifjbbiphekmmaaGreatDoor
open Go.RowKit
set_option linter.unusedVariables false
set_option linter.unusedSimpArgs false

theorem asc_spec : AscB ⟨#[61, 33, 40, 41, 44]⟩ := by unfold AscB; decide
theorem spec_list : (⟨#[61, 33, 40, 41, 44]⟩ : ByteArray).data.toList = specL := rfl
theorem cont_spec (b : UInt8) : specL.contains b = decide (b ∈ specL) := by
  by_cases h : b ∈ specL
  · rw [decide_eq_true h]; simpa using h
  · rw [decide_eq_false h]; simpa using h
theorem anyi_spec : ∀ s : Tx, (0 ≤ Lib.indexAny s specL) ↔ ∃ b ∈ s, b ∈ specL
  | [] => by simp [Lib.indexAny]
  | b :: l => by
    have ih := anyi_spec l
    have hg := Lib.indexAny_ge specL l
    unfold Lib.indexAny
    rw [cont_spec]
    by_cases h : b ∈ specL
    · rw [decide_eq_true h]; simp [h]
    · rw [decide_eq_false h]
      simp only [Bool.false_eq_true, if_false, List.mem_cons, exists_eq_or_imp, h, false_or]
      rw [← ih]
      split
      · rename_i e; have := beq_iff_eq.1 e; omega
      · rename_i e; have : Lib.indexAny l specL ≠ -1 := fun k => e (beq_iff_eq.2 k); omega
theorem cany_spec (s : Tx) : Lib.containsAny s specL = decide (∃ b ∈ s, b ∈ specL) := by
  unfold Lib.containsAny
  exact decide_eq_decide.2 (anyi_spec s)
theorem word_iff (s : Tx) : wordB s ↔ keyB s ∧ ¬ ∃ b ∈ s, b ∈ specL := by
  unfold wordB
  refine and_congr_right fun _ => ⟨fun h ⟨b, h1, h2⟩ => h b h1 h2, fun h b h1 h2 => h ⟨b, h1, h2⟩⟩

set_option maxHeartbeats 1600000 in
theorem word_any (s : Tx) (w : World) : Calls Tryz.prog 16 #[.string (bs s)] w fun e w' => e = .returned (.bool (decide (wordB s))) ∧ Below w.heap.size w w' := by
  have HK := Lib.hid (key_any s w)
  by_cases hk : keyB s
  · rw [decide_eq_true hk] at HK
    have HC := Lib.hid (cany_any (bs s) ⟨#[61, 33, 40, 41, 44]⟩ w asc_spec (by decide) (by decide) (by rw [bs_size]; have := hk.2; omega))
    rw [spec_list, show (bs s).data.toList = s from tx_bs s, cany_spec] at HC
    have hr : decide (wordB s) = !decide (∃ b ∈ s, b ∈ specL) := by
      by_cases h : ∃ b ∈ s, b ∈ specL
      · rw [decide_eq_true h, decide_eq_false (fun k => ((word_iff s).1 k).2 h)]; rfl
      · rw [decide_eq_false h, decide_eq_true ((word_iff s).2 ⟨hk, h⟩)]; rfl
    rw [hr]
    clear hr hk
    generalize decide (∃ b ∈ s, b ∈ specL) = r at *
    go_enter Tryz.func16, Tryz.ntmps16
    go_wp2_with fail
    refine HK.out.mono ?_
    rintro e w' ⟨rfl, rfl⟩
    go_wp2_with fail
    refine HC.out.mono ?_
    rintro e w' ⟨rfl, hb⟩
    go_wp2
    go_ret
    exact ⟨rfl, hb⟩
  · rw [decide_eq_false hk] at HK
    have hr : decide (wordB s) = false := decide_eq_false fun k => hk k.1
    rw [hr]
    clear hr hk
    go_enter Tryz.func16, Tryz.ntmps16
    go_wp2_with fail
    refine HK.out.mono ?_
    rintro e w' ⟨rfl, rfl⟩
    go_wp2
    go_ret
    exact ⟨rfl, Below.refl _ _⟩

theorem words_snoc {l : List Tx} {j : Nat} (h : j < l.length) (k : ∀ v ∈ l.take j, wordB v) (h1 : wordB (l.getD j [])) : ∀ v ∈ l.take (j + 1), wordB v := by
  rw [List.take_succ_eq_append_getElem h]
  intro v hv
  rcases List.mem_append.1 hv with hv | hv
  · exact k v hv
  · rw [List.mem_singleton] at hv
    rw [hv, ← getD_get h]; exact h1
theorem right_no_word {e : TmT} {j : Nat} (h : j < e.l.length) (h1 : ¬ wordB (e.l.getD j [])) : ¬ rightT e.trm := fun hr => h1 (hr.2.2 _ (by rw [getD_get h]; exact List.getElem_mem h))

set_option maxHeartbeats 1600000 in
theorem right10_any (e : TmT) (w : World) (h : TmOk w e) : Calls Tryz.prog 14 #[tmV e] w fun r w' => r = .returned (.bool (decide (rightT e.trm))) ∧ Below w.heap.size w w' := by
  obtain ⟨nm, ng, a, n, c, l⟩ := e
  have HS := Lib.hid (show TxAt w a n c l from h)
  have HL := Lib.hid h.1
  have h63 := h.2.2.1
  clear h
  unfold tmV
  simp only at HL HS h63 ⊢
  have hlen : l.length = n := HL.out
  by_cases hn : n ≤ 16
  · have hnz : decide ((16 : Int) < (n : Int)) = false := decide_eq_false (by omega)
    have HW := Lib.hid (fun W => word_any nm W)
    have HR : Hid (wordB nm → (∀ v ∈ l, wordB v) → rightT (nm, ng, l)) := Lib.hid fun h1 h2 => ⟨by show l.length ≤ 16; omega, h1, h2⟩
    clear hlen
    by_cases hw : wordB nm
    · rw [decide_eq_true hw] at HW
      go_enter Tryz.func14, Tryz.ntmps14
      go_wp2_with fail
      have X0 := Lib.hid (BoxT.new 24 w ⟨nm, ng, a, n, c, l⟩)
      have B0 := Lib.hid ((Below.refl w.heap.size w).alloc (Nat.le_refl _) (.cells #[.string (bs nm), .bool ng, .slice a n c] 24))
      simp only at X0
      generalize w.alloc (.cells #[.string (bs nm), .bool ng, .slice a n c] 24) = W0 at *
      refine (HW.out _).mono ?_
      rintro e w1 ⟨rfl, hb⟩
      have X1 := Lib.hid (X0.out.keep hb)
      have B1 := Lib.hid (B0.out.trans (hb.mono B0.out.size))
      have HS1 := Lib.hid (HS.out.keep B1.out)
      clear X0 B0 hb HS
      have x2 := X1.out.x2
      go_wp2_with fail
      clear x2 X1
      go_loopw [4, 18] (fun _ i wr => ∃ j : Nat, j ≤ n ∧ i = .int .i64 (j : Int) ∧ Hid (∀ v ∈ l.take j, wordB v) ∧ Hid (TxAt wr a n c l) ∧ Hid (Below w.heap.size w wr)) (fun _ i _ => n - (intOf i).toNat)
      case atStart => exact ⟨0, by omega, rfl, Lib.hid (by simp), HS1, B1⟩
      case round =>
        obtain ⟨j, hj, rfl, HT, HS2, HB⟩ := hrel
        by_cases hjn : j < n
        · obtain ⟨p, o, rfl, hp, x0⟩ := HS2.out.at_ j hjn
          have HV := Lib.hid (fun W => word_any (l.getD j []) W)
          by_cases hv : wordB (l.getD j [])
          · rw [decide_eq_true hv] at HV
            have HN := Lib.hid (words_snoc (by rw [HL.out]; exact hjn) HT.out hv)
            clear hv HT hw
            generalize bs (l.getD j []) = v at *
            go_wp2_with fail
            refine (HV.out _).mono ?_
            rintro e w2 ⟨rfl, hb⟩
            have HS3 := Lib.hid (HS2.out.keep hb)
            have HB3 := Lib.hid (HB.out.trans (hb.mono HB.out.size))
            clear hb
            go_wp2
            go_roundw
            case rel => exact ⟨j + 1, by omega, by go_num, HN, HS3, HB3⟩
            case measure => simp [intOf]; omega
          · rw [decide_eq_false hv] at HV
            have HN := Lib.hid (right_no_word (e := ⟨nm, ng, some ⟨p, o, none⟩, n, c, l⟩) (by rw [show _ = _ from HL.out]; exact hjn) hv)
            clear hv HT hw
            generalize bs (l.getD j []) = v at *
            go_wp2_with fail
            refine (HV.out _).mono ?_
            rintro e w2 ⟨rfl, hb⟩
            have HB3 := Lib.hid (HB.out.trans (hb.mono HB.out.size))
            clear hb
            go_wp2
            go_ret
            exact ⟨ret_bool (decide_eq_false HN.out).symm, HB3.out⟩
        · have HN := Lib.hid (HR.out hw (by have := HT.out; rwa [List.take_of_length_le (by rw [HL.out]; omega)] at this))
          have hlt : ¬ (j : Int) < (n : Int) := by omega
          clear hw
          go_wp2
          go_ret
          exact ⟨ret_bool (decide_eq_true HN.out).symm, HB.out⟩
    · rw [decide_eq_false hw] at HW
      have HN := Lib.hid (show ¬ rightT (nm, ng, l) from fun h => hw h.2.1)
      clear hw
      go_enter Tryz.func14, Tryz.ntmps14
      go_wp2_with fail
      refine (HW.out _).mono ?_
      rintro e w1 ⟨rfl, hb⟩
      have B1 := Lib.hid (((Below.refl w.heap.size w).alloc (Nat.le_refl _) (.cells #[.string (bs nm), .bool ng, .slice a n c] 24)).trans (hb.mono (by rw [World.alloc]; simp)))
      clear hb
      go_wp2
      go_ret
      exact ⟨ret_bool (decide_eq_false HN.out).symm, B1.out⟩
  · have hnz : decide ((16 : Int) < (n : Int)) = true := decide_eq_true (by omega)
    have HN := Lib.hid (show ¬ rightT (nm, ng, l) from fun h => hn (by have := h.1; simp only at this; omega))
    clear hlen
    go_enter Tryz.func14, Tryz.ntmps14
    go_wp2
    go_ret
    exact ⟨ret_bool (decide_eq_false HN.out).symm, (Below.refl _ _).alloc (Nat.le_refl _) _⟩
end Go.Proofs.YtifjbbiphekmmaaGreatDoor
