/-
  Contracts of strings.Join with commas, and of filter.Show.
-/
import Derived.Test.YtifjbbiphekmmaaGreatDoorFParse
namespace Go.Proofs.YtifjbbiphekmmaaGreatDoor
open Go.RowKit Go.Lib
set_option linter.unusedVariables false
set_option linter.unusedSimpArgs false

theorem joins_any (a : Option Addr) (n c : Nat) (l : List Tx) (w : World) (h : TxAt w a n c l) (hn : n ≤ 1000000) (hl : (joinC l).length ≤ 1000000) :
    Calls Tryz.prog 35 #[.slice a n c, .string ⟨#[44]⟩] w fun e w' => e = .returned (.string (bs (joinC l))) ∧ Below w.heap.size w w' := by
  obtain ⟨h1, h2, h3, h4⟩ := h
  by_cases h0 : n = 0
  · subst h0
    have : l = [] := List.eq_nil_of_length_eq_zero h1
    subst this
    refine (sh_strings_Join_none a c ⟨#[44]⟩ w).mono ?_
    rintro e w' ⟨rfl, hw⟩
    subst hw
    exact ⟨rfl, Below.refl _ _⟩
  · rcases h4 with e | ⟨b, off, rfl, hlt, hc⟩
    · exact absurd e h0
    · have hmap : (l.map bs).map (·.data.toList) = l := by rw [List.map_map]; simp [Function.comp_def, bs_data]
      have hj : Lib.join ((l.map bs).map (·.data.toList)) (⟨#[44]⟩ : ByteArray).data.toList = joinC l := by rw [hmap]; exact join_lib l
      have hlen : (l.map bs).length = n := by rw [List.length_map, h1]
      have := sh_strings_Join b off c (l.map bs) ⟨#[44]⟩ w (fun j x hx => by
        obtain ⟨hj, e⟩ := List.getElem?_eq_some_iff.1 hx
        rw [List.length_map] at hj
        rw [hc j (by omega), ← e, getD_get hj, List.getElem_map]) hlt (by omega) (by omega) (by rw [hj]; omega)
      rw [hlen, hj] at this
      exact this
theorem bs_app (a b : Tx) : bs a ++ bs b = bs (a ++ b) := by
  have h : tx (bs a ++ bs b) = tx (bs (a ++ b)) := by
    rw [tx_bs]
    unfold tx
    rw [ByteArray.data_append, Array.toList_append, bs_data, bs_data]
  rw [← bs_tx (bs a ++ bs b), h, bs_tx]
theorem show_1 (nm j : Tx) : bs nm ++ (⟨#[33, 61]⟩ : ByteArray) ++ ((⟨#[40]⟩ : ByteArray) ++ bs j ++ (⟨#[41]⟩ : ByteArray)) = bs (nm ++ (signT true ++ 40 :: (j ++ [41]))) := by
  rw [show (⟨#[33, 61]⟩ : ByteArray) = bs [33, 61] from rfl, show (⟨#[40]⟩ : ByteArray) = bs [40] from rfl, show (⟨#[41]⟩ : ByteArray) = bs [41] from rfl, bs_app, bs_app, bs_app, bs_app]
  simp [signT]
theorem show_2 (nm j : Tx) : bs nm ++ (⟨#[61]⟩ : ByteArray) ++ ((⟨#[40]⟩ : ByteArray) ++ bs j ++ (⟨#[41]⟩ : ByteArray)) = bs (nm ++ (signT false ++ 40 :: (j ++ [41]))) := by
  rw [show (⟨#[61]⟩ : ByteArray) = bs [61] from rfl, show (⟨#[40]⟩ : ByteArray) = bs [40] from rfl, show (⟨#[41]⟩ : ByteArray) = bs [41] from rfl, bs_app, bs_app, bs_app, bs_app]
  simp [signT]
theorem show_3 (nm j : Tx) : bs nm ++ (⟨#[33, 61]⟩ : ByteArray) ++ bs j = bs (nm ++ (signT true ++ j)) := by
  rw [show (⟨#[33, 61]⟩ : ByteArray) = bs [33, 61] from rfl, bs_app, bs_app]
  simp [signT]
theorem show_4 (nm j : Tx) : bs nm ++ (⟨#[61]⟩ : ByteArray) ++ bs j = bs (nm ++ (signT false ++ j)) := by
  rw [show (⟨#[61]⟩ : ByteArray) = bs [61] from rfl, bs_app, bs_app]
  simp [signT]
theorem join_right {t : Trm} (h : rightT t) : (joinC t.2.2).length ≤ 1040 := by
  have h1 := join_len_one (v := []) (K := 64) (l := t.2.2) (fun x hx => (word_len (h.2.2 x hx)).2)
  have h2 := h.1
  have h3 : t.2.2.length * (64 + 1) ≤ 16 * 65 := Nat.mul_le_mul h2 (Nat.le_refl _)
  omega

set_option maxHeartbeats 2000000 in
theorem show10_any (e : TmT) (w : World) (h : TmOk w e) : Calls Tryz.prog 11 #[tmV e] w fun r w' => r = .returned (.string (bs (showT e.trm))) ∧ Below w.heap.size w w' := by
  obtain ⟨nm, ng, a, n, c, l⟩ := e
  have HS := Lib.hid (show TxAt w a n c l from h)
  have hlen : l.length = n := h.1
  have h63 := h.2.2.1
  clear h
  unfold tmV
  have X0 := Lib.hid (BoxT.new 24 w ⟨nm, ng, a, n, c, l⟩)
  have B0 := Lib.hid ((Below.refl w.heap.size w).alloc (Nat.le_refl _) (.cells #[.string (bs nm), .bool ng, .slice a n c] 24))
  have HS0 := Lib.hid (HS.out.keep B0.out)
  simp only at X0 ⊢
  have HR := Lib.hid (right10_x nm ng a n c l _ HS0.out)
  have HT : Hid (∀ t, (⟨nm, ng, a, n, c, l⟩ : TmT).trm = t → t = (nm, ng, l)) := Lib.hid fun t e => e.symm
  show Calls _ _ _ _ fun r w' => r = .returned (.string (bs (showT (nm, ng, l)))) ∧ Below w.heap.size w w'
  clear HT
  by_cases hr : rightT (nm, ng, l)
  · rw [decide_eq_true hr] at HR
    have HN := Lib.hid (show_right hr)
    have hj := join_right hr
    have hn16 : n ≤ 16 := by have := hr.1; simp only at this; omega
    have HJ := Lib.hid (fun W (t : TxAt W a n c l) => joins_any a n c l W t (by omega) (by simp only at hj; omega))
    have HLT : Hid (listT l = if 1 < n then 40 :: (joinC l ++ [41]) else joinC l) := Lib.hid (by unfold listT; rw [hlen])
    have hsj : (bs (joinC l)).size ≤ 1040 := by rw [bs_size]; exact hj
    have hsn : (bs nm).size ≤ 64 := by rw [bs_size]; exact (word_len hr.2.1).2
    have g1 : ¬ 9223372036854775807 < 1 + (bs (joinC l)).size := by omega
    clear hr hj hlen HS
    by_cases h1 : 1 < n
    · have hz : decide ((1 : Int) < (n : Int)) = true := decide_eq_true (by omega)
      rw [if_pos h1] at HLT
      clear h1
      cases ng
      all_goals
        go_enter Tryz.func11, Tryz.ntmps11
        go_wp2_with fail
        generalize w.alloc (.cells #[.string (bs nm), .bool _, .slice a n c] 24) = W0 at *
        refine HR.out.mono ?_
        rintro e w1 ⟨rfl, hb⟩
        have X1 := Lib.hid (X0.out.keep hb)
        have B1 := Lib.hid (B0.out.trans (hb.mono B0.out.size))
        have HS1 := Lib.hid (HS0.out.keep hb)
        clear X0 B0 HS0 hb HR
        have x0 := X1.out.x0
        have x1 := X1.out.x1
        have x2 := X1.out.x2
        simp only at x0 x1 x2
        go_wp2_with fail
        refine (HJ.out w1 HS1.out).mono ?_
        rintro e w2 ⟨rfl, hb⟩
        have X2 := Lib.hid (X1.out.keep hb)
        have B2 := Lib.hid (B1.out.trans (hb.mono B1.out.size))
        clear X1 B1 HS1 hb x0 x1 x2
        have x0 := X2.out.x0
        have x2 := X2.out.x2
        simp only at x0 x2
        go_wp2
        go_ret
        refine ⟨?_, B2.out⟩
        rw [HN.out]
        unfold textT
        simp only
        rw [HLT.out]
        first
          | exact congrArg (fun x => Ending.returned (.string x)) (show_1 nm (joinC l))
          | exact congrArg (fun x => Ending.returned (.string x)) (show_2 nm (joinC l))
          | exact congrArg (fun x => Ending.returned (.string x)) (show_3 nm (joinC l))
          | exact congrArg (fun x => Ending.returned (.string x)) (show_4 nm (joinC l))
    · have hz : decide ((1 : Int) < (n : Int)) = false := decide_eq_false (by omega)
      rw [if_neg h1] at HLT
      clear h1
      cases ng
      all_goals
        go_enter Tryz.func11, Tryz.ntmps11
        go_wp2_with fail
        generalize w.alloc (.cells #[.string (bs nm), .bool _, .slice a n c] 24) = W0 at *
        refine HR.out.mono ?_
        rintro e w1 ⟨rfl, hb⟩
        have X1 := Lib.hid (X0.out.keep hb)
        have B1 := Lib.hid (B0.out.trans (hb.mono B0.out.size))
        have HS1 := Lib.hid (HS0.out.keep hb)
        clear X0 B0 HS0 hb HR
        have x0 := X1.out.x0
        have x1 := X1.out.x1
        have x2 := X1.out.x2
        simp only at x0 x1 x2
        go_wp2_with fail
        refine (HJ.out w1 HS1.out).mono ?_
        rintro e w2 ⟨rfl, hb⟩
        have X2 := Lib.hid (X1.out.keep hb)
        have B2 := Lib.hid (B1.out.trans (hb.mono B1.out.size))
        clear X1 B1 HS1 hb x0 x1 x2
        have x0 := X2.out.x0
        have x2 := X2.out.x2
        simp only at x0 x2
        go_wp2
        go_ret
        refine ⟨?_, B2.out⟩
        rw [HN.out]
        unfold textT
        simp only
        rw [HLT.out]
        first
          | exact congrArg (fun x => Ending.returned (.string x)) (show_1 nm (joinC l))
          | exact congrArg (fun x => Ending.returned (.string x)) (show_2 nm (joinC l))
          | exact congrArg (fun x => Ending.returned (.string x)) (show_3 nm (joinC l))
          | exact congrArg (fun x => Ending.returned (.string x)) (show_4 nm (joinC l))
  · rw [decide_eq_false hr] at HR
    have HN := Lib.hid (show showT (nm, ng, l) = [] from if_neg hr)
    clear hr hlen HS
    go_enter Tryz.func11, Tryz.ntmps11
    go_wp2_with fail
    refine HR.out.mono ?_
    rintro e w1 ⟨rfl, hb⟩
    have B1 := Lib.hid (B0.out.trans (hb.mono B0.out.size))
    go_wp2
    go_ret
    exact ⟨by rw [HN.out]; rfl, B1.out⟩
end Go.Proofs.YtifjbbiphekmmaaGreatDoor
