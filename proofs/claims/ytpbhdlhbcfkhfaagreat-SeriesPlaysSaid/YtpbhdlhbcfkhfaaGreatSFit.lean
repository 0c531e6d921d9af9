/-
  Contract of series.fitting: the chunks in which the samples of a chunk fit.
-/
import Derived.Test.YtpbhdlhbcfkhfaaGreatSApp
namespace Go.Proofs.YtpbhdlhbcfkhfaaGreat
open Go.RowKit
set_option linter.unusedVariables false
set_option linter.unusedSimpArgs false

theorem gb_past {a w w' : World} {row : Option Nat} {o : Nat} (h : a.grownBy w row) (hs : a.heap.size ≤ o) (g : w.grownBy w' (some o)) : a.grownBy w' row :=
  ⟨g.os.trans h.os, g.tape.trans h.tape, g.output.trans h.output, Nat.le_trans h.size g.size, fun i hi hr => (g.block i (Nat.lt_of_lt_of_le hi h.size) (by simp; omega)).trans (h.block i hi hr)⟩
def FitP (b : Nat) (sz : Int) (z : List (Int × Int)) (w : World) (e : Ending) (w' : World) : Prop :=
  ∃ v L, e = .returned v ∧ PRow w' w.heap.size v (bl L) ∧ Chs w' sz L ∧ (zs L).flatten = z ∧ (∀ x ∈ zs L, Fit sz x) ∧ (∀ q ∈ bl L, q = b ∨ w.heap.size ≤ q) ∧ L.length ≤ max 1 z.length ∧ w.grownBy w' (some b)
theorem FitP.one {b : Nat} {sz : Int} {z : List (Int × Int)} {w W : World} (hf : Fit sz z) (h : PCk W b sz z) (g : w.grownBy W (some b)) :
    FitP b sz z w (.returned (.slice (some ⟨W.heap.size, 0, none⟩) 1 1)) (W.alloc (.cells #[.pointer (some ⟨b, 0, none⟩)] 46)) :=
  ⟨_, [(b, z)], rfl, PRow.one W _ b g.size, Chs.one (CAt.keepN h (World.grownBy_alloc W _ none)), by simp [zs], by intro x hx; simp [zs] at hx; subst hx; exact hf, by intro q hq; simp [bl] at hq; exact .inl hq, by simp; omega, gb_alloc g _⟩

set_option maxHeartbeats 1000000 in
theorem fitting_any (sz : Int) (hs : 128 ≤ sz) (hs2 : sz ≤ 4096) (n : Nat) : ∀ (b : Nat) (z : List (Int × Int)) (w : World), z.length ≤ n → z.length ≤ 524288 → PCk w b sz z →
    Calls Tryz.prog 33 #[.pointer (some ⟨b, 0, none⟩)] w (FitP b sz z w) := by
  induction n with
  | zero =>
    intro b z w hn hl h
    have hz : z = [] := List.eq_nil_of_length_eq_zero (by omega)
    have HK := Lib.hid h
    have hf : Fit sz z := by subst hz; exact fit_one hs _ (by simp)
    have hu : (usedL z : Int) ≤ sz := (used_fit sz z).2 hf
    clear h hz
    go_enter Tryz.func33, Tryz.ntmps33
    go_wp2_with fail
    refine (used_ok b sz z _ HK.out (by omega) (by omega)).mono ?_
    rintro e W1 ⟨rfl, b1⟩
    have k1 := CAt.keepB HK.out b1
    generalize usedL z = u at *
    go_wp2_with fail
    refine (size_ok b sz z _ k1).mono ?_
    rintro e W2 ⟨rfl, rfl⟩
    have HK1 := Lib.hid k1
    clear k1 HK
    go_wp2
    go_ret
    exact FitP.one hf HK1.out (gb_below b1)
  | succ n ih =>
    intro b z w hn hl h
    have HK := Lib.hid h
    by_cases hf : Fit sz z
    · have hu : (usedL z : Int) ≤ sz := (used_fit sz z).2 hf
      clear h
      go_enter Tryz.func33, Tryz.ntmps33
      go_wp2_with fail
      refine (used_ok b sz z _ HK.out (by omega) (by omega)).mono ?_
      rintro e W1 ⟨rfl, b1⟩
      have k1 := CAt.keepB HK.out b1
      generalize usedL z = u at *
      go_wp2_with fail
      refine (size_ok b sz z _ k1).mono ?_
      rintro e W2 ⟨rfl, rfl⟩
      have HK1 := Lib.hid k1
      clear k1 HK
      go_wp2
      go_ret
      exact FitP.one hf HK1.out (gb_below b1)
    · have hu : ¬ (usedL z : Int) ≤ sz := fun e => hf ((used_fit sz z).1 e)
      have h2 : 2 ≤ z.length := by
        apply Classical.byContradiction
        intro hc
        exact hf (fit_one hs z (by omega))
      have hK := halfK_le z h2
      have HF : Hid (∀ k, z.take k ++ z.drop k = z) := Lib.hid (fun k => List.take_append_drop k z)
      clear h hf
      have hblt := HK.out.lt
      go_enter Tryz.func33, Tryz.ntmps33
      go_wp2_with fail
      refine (used_ok b sz z _ HK.out (by omega) (by omega)).mono ?_
      rintro e W1 ⟨rfl, b1⟩
      have k1 := CAt.keepB HK.out b1
      generalize usedL z = u at *
      go_wp2_with fail
      refine (size_ok b sz z _ k1).mono ?_
      rintro e W2 ⟨rfl, rfl⟩
      clear HK
      go_wp2_with fail
      refine (split_ok b sz z _ k1 (by omega) (by omega) h2).mono ?_
      rintro e W2 ⟨o, rfl, ho, p2, q2, g2⟩
      have G2 := gb_trans (gb_below (row := some b) b1) g2
      have hob : o ≠ b := by have := b1.size; omega
      clear k1 g2
      generalize halfK z = k at *
      go_wp2_with fail
      refine (ih b (z.take k) _ (by simp; omega) (by simp; omega) p2).mono ?_
      rintro e W3 ⟨v3, L3, rfl, r3, c3, f3, t3, d3, n3, g3⟩
      have q3 := CAt.keep q2 g3 hob (PCk.noSamp p2)
      have hno : o ∉ bl L3 := fun hm => by rcases d3 o hm with h | h; exact hob h; have := q2.lt; omega
      have G3 := gb_trans G2 g3
      have hs3 := g3.size
      have hq2 := q2.lt
      clear p2 q2 g3 G2
      go_wp2_with fail
      refine (ih o (z.drop k) _ (by simp; omega) (by simp; omega) q3).mono ?_
      rintro e W4 ⟨v4, L4, rfl, r4, c4, f4, t4, d4, n4, g4⟩
      have r3' := r3.keep g4 (fun r hr => by cases hr; exact PCk.noPtr q3)
      have c3' := c3.keep g4 (PCk.noSamp q3) hno
      have hw0 : w.heap.size ≤ o := Nat.le_trans b1.size ho
      have G4 := gb_past G3 hw0 g4
      have hs4 := g4.size
      obtain ⟨a4, cap4, rfl, P4⟩ := r4.shape
      have hlen : (bl L3).length + (bl L4).length ≤ 1048576 := by
        rw [bl_len, bl_len]
        simp only [List.length_take, List.length_drop] at n3 n4
        omega
      have hnn : (L3 ++ L4).length ≤ max 1 z.length := by
        rw [List.length_append]
        simp only [List.length_take, List.length_drop] at n3 n4
        omega
      have hw2 : w.heap.size ≤ W2.heap.size := by omega
      clear n3 n4 r4 q3 c3 r3 G3 hno g4
      go_wp2_with (at_builtin; (refine wpList_append_ptrs ?_ (.tmp 18) (.tmp 20) rfl W2.heap.size _ (bl L3) rfl r3' _ _ cap4 (bl L4) rfl P4 hlen (by omega) ?_))
      intro v5 W5 r5 g5
      have c5 := (c3'.app c4).app_keep r3' g5
      have G5 := r3'.gb G4 hw2 g5
      clear P4 r3' c3' c4 g5 G4
      go_wp2
      go_ret
      refine ⟨v5, L3 ++ L4, rfl, ?_, c5, ?_, ?_, ?_, hnn, G5⟩
      · rw [bl_app]; exact r5.base hw2
      · rw [zs_app, List.flatten_append, f3, f4]; exact HF.out k
      · intro x hx
        rw [zs_app] at hx
        rcases List.mem_append.1 hx with h | h
        · exact t3 x h
        · exact t4 x h
      · intro q hq
        rw [bl_app] at hq
        rcases List.mem_append.1 hq with h | h
        · rcases d3 q h with h | h
          · exact .inl h
          · exact .inr (by omega)
        · rcases d4 q h with h | h
          · exact .inr (by omega)
          · exact .inr (by omega)

end Go.Proofs.YtpbhdlhbcfkhfaaGreat
