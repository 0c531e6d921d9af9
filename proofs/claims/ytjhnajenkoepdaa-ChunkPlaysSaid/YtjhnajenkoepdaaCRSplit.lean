/-
  Contract of the document's own answer for layer 4: Split.
  Condition: at most 900 samples.
-/
import Derived.Test.YtjhnajenkoepdaaCRef
import Derived.Deep.RegionLaw
namespace Go.Proofs.Ytjhnajenkoepdaa
open Go.RowKit
set_option linter.unusedVariables false
set_option linter.unusedSimpArgs false

/-- The law of appending a list, as one step of a region that draws. -/
theorem step_append_lst {w : World} {ops : Array Oper} {o : Oper} {a : Act} {K : Act → World → Prop} {Q : Exit → Act → World → Prop} {E : Prop} (hw : Region.wanted o (yielded ops a.tmps) = true) (s x : Operand)
    (ho : o.op = .call { callee := .builtin .append, args := #[s, x], argTypes := #[43, 43] })
    (base : Nat) (v : Value) (n : Nat) (z0 : List (Int × Int)) (hs : a.eval s = v) (hn : z0.length = n) (hown : w.ownsRow base 31 2 v n (smpCells z0))
    (ax : Option Addr) (m c : Nat) (z : List (Int × Int)) (hx : a.eval x = .slice ax m c) (hl : Lst w ax m c z) (hb : n + m ≤ 1048576) (hbase : base ≤ w.heap.size)
    (h : ∀ v' w', w'.ownsRow base 31 2 v' (n + m) (smpCells (z0 ++ z)) → w.grownBy w' v.ownBlock → K (a.put o.dst v') w') :
    if Region.wanted o (yielded ops a.tmps) = true then Oper.wp Try.prog o a w K Q else E := by
  obtain ⟨i0, hi, hz0, hz1, hz2⟩ := info_parts info_samp
  rw [if_pos hw]
  have hm := hl.len
  cases ax with
  | none =>
    have h0 : m = 0 := by
      rcases hl.1.2.2.2.2 with e | ⟨b, off, e, _⟩
      · exact e
      · cases e
    subst h0
    have e0 : z = [] := List.eq_nil_of_length_eq_zero hm
    subst e0
    have hrun := run_append_nothing (P := Try.prog) (w := w) base 43 o.type 31 i0 2 c Try.underlying43 hi v n _ hown
    unfold Oper.wp
    simp [execOp, ho, resolve, invoke, builtin, hs, hx, hrun, Result.andThen]
    refine h v w ?_ (gb_refl _ _)
    simpa using hown
  | some ad =>
    refine wp_append_own w s x 43 ho base 31 i0 _ 2 16 Try.underlying43 hi hz0 hz1 hz2 rfl (by omega) v n _ hs hown ad m c (smpCells z) hx (by rw [smpCells_length, hm]) ?_ (smpCells_one z) (by unfold maxLen; omega) (by omega) hbase ?_
    · intro j u hj
      by_cases h0 : 0 < m
      · obtain ⟨ad', e, hc⟩ := src_cells hl h0
        cases e
        exact hc j u hj
      · have : z = [] := List.eq_nil_of_length_eq_zero (by omega)
        subst this
        simp [smpCells] at hj
    · intro v' w' h2 h3 _
      refine h v' w' ?_ h3
      rw [smpCells_append]; exact h2

def RSplitP (b : Nat) (sz : Int) (z : List (Int × Int)) (w : World) (e : Ending) (w' : World) : Prop :=
  ∃ o, e = .returned (.tuple #[.pointer (some ⟨o, 0, none⟩), .int .i64 0]) ∧ w.heap.size ≤ o ∧ RCk w' b sz (z.take (halfK z)) ∧ RCk w' o sz (z.drop (halfK z)) ∧ w.grownBy w' (some b)

theorem rsplit_few (b : Nat) (sz : Int) (z : List (Int × Int)) (w : World) (h : RCk w b sz z) (hn : z.length < 2) :
    Calls Try.prog 11 #[.pointer (some ⟨b, 0, none⟩)] w fun e w' => e = .returned (.tuple #[.pointer none, .int .i64 5]) ∧ w = w' := by
  obtain ⟨a, cap, hc, hl⟩ := h
  have c1 : w.cell? ⟨b, 1, none⟩ = some (.slice a z.length cap) := by rw [cell_of hc]; rfl
  clear hc hl
  go_enter Try.func11, Try.ntmps11
  go_wp2
  go_ret2
  exact ⟨rfl, rfl⟩

set_option maxRecDepth 100000 in
set_option maxHeartbeats 8000000 in
theorem rsplit_ok (b : Nat) (sz : Int) (z : List (Int × Int)) (w : World) (h : RCk w b sz z) (hn : z.length ≤ 900) (h2 : 2 ≤ z.length) :
    Calls Try.prog 11 #[.pointer (some ⟨b, 0, none⟩)] w (RSplitP b sz z w) := by
  have hb := h.lt
  have HW0 := Lib.hid h
  have h64 := Lib.hid h.all64
  obtain ⟨a, cap, hc, hl⟩ := h
  have HC := Lib.hid hc
  have HL := Lib.hid hl
  have c1 : w.cell? ⟨b, 1, none⟩ = some (.slice a z.length cap) := by rw [cell_of hc]; rfl
  have hbz := bitsZ_le z
  have hw1 : IntKind.i64.wrap ((z.length : Int) - 1) = ((z.length - 1 : Nat) : Int) := by rw [IntWalk.i64_in _ ⟨by omega, by omega⟩]; omega
  have HW1 := Lib.hid hw1
  clear hc hl hw1
  go_enter Try.func11, Try.ntmps11
  go_wp2_with fail
  go_loopw [4] (fun i wr => ∃ k : Nat, 1 ≤ k ∧ k ≤ z.length - 1 ∧ i = .int .i64 (k : Int) ∧ Hid (∀ i, 1 ≤ i → i < k → 2 * (encTo z i).length < bitsZ z) ∧ Below w.heap.size w wr) (fun i _ => z.length - (intOf i).toNat)
  case atStart => exact ⟨1, Nat.le_refl _, by omega, rfl, Lib.hid (fun i h1 h2 => by omega), Below.refl _ _⟩
  case round =>
    obtain ⟨k, hk1, hk2, rfl, HNO, B1⟩ := hrel
    have s1 := B1.size
    have hb1 : b < wr.heap.size := by omega
    have d1 : wr.cell? ⟨b, 1, none⟩ = some (.slice a z.length cap) := by rw [B1.cell hb]; exact c1
    by_cases hkl : k < z.length - 1
    · obtain ⟨a1, hs1, LA⟩ := lst_to (HL.out.keepB B1) k (by omega)
      have HLA0 := Lib.hid LA
      have HLA : Hid (Lst wr.drew a1 k cap (z.take k)) := HLA0
      have HB := Lib.hid (bitsZ_take z k (by omega))
      have HLD0 := Lib.hid (HL.out.keepB B1)
      have HLD : Hid (Lst wr.drew a z.length cap z) := HLD0
      have hle := encTo_le z k
      have hw1 := HW1.out
      have hdec : decide ((k : Int) < ((z.length - 1 : Nat) : Int)) = true := by rw [decide_eq_true_iff]; omega
      have h22 : IntKind.i64.wrap (2 * ((encTo z k).length : Int)) = 2 * ((encTo z k).length : Int) := IntWalk.i64_in _ ⟨by omega, by omega⟩
      have hkk : k ≤ 900 := by omega
      clear HLA0 LA HLD0
      by_cases ht : 2 * (encTo z k).length < bitsZ z
      · have hd : decide (2 * ((encTo z k).length : Int) < ((bitsZ z : Nat) : Int)) = true := by rw [decide_eq_true_iff]; omega
        have HNO2 := Lib.hid (show ∀ i, 1 ≤ i → i < k + 1 → 2 * (encTo z i).length < bitsZ z from fun i h1 h2 => by
          by_cases e : i = k
          · subst e; exact ht
          · exact HNO.out i h1 (by omega))
        clear ht
        generalize (encTo z k).length = ne at *
        go_wp2_with fail
        go_region_held3 (fun w' => w'.cell? ⟨b, 1, none⟩ = some (.slice a z.length cap))
          (first
            | go_keep
            | ((rw [b6.cell (by simpa using hb1)]; assumption))
            | ((rw [b7.cell (by have := b6.size; simp at this ⊢; omega)]; assumption)))
          (first
            | (go_at_call 31
               (first
                 | ((with_reducible refine (rbits_lst a1 k cap (z.take k) _ HLA.out (by omega)).mono ?_)
                    rintro e W6 ⟨rfl, b6⟩
                    rw [HB.out])
                 | ((with_reducible refine (rbits_lst a z.length cap z _ (HLD.out.keepB b6) (by omega)).mono ?_)
                    rintro e W7 ⟨rfl, b7⟩))))
        have B7 := bel_gbn B1 s1 (gb_trans (gb_trans (Drew.gb (w := wr) (w' := wr.drew) ⟨1, rfl⟩ none) (gb_below b6)) (gb_below b7))
        clear b6 b7 d1 hs1 hw1 hdec h22 hd
        go_wp2
        go_roundw
        case rel => exact ⟨k + 1, by omega, by omega, by go_num, HNO2, B7⟩
        case measure => simp [intOf]; omega
      · have hd : decide (2 * ((encTo z k).length : Int) < ((bitsZ z : Nat) : Int)) = false := by rw [decide_eq_false_iff_not]; omega
        have HK := Lib.hid (halfK_is z k hk1 hk2 HNO.out (fun _ => by omega))
        clear ht
        generalize (encTo z k).length = ne at *
        go_wp2_with fail
        go_region_held3 (fun w' => w'.cell? ⟨b, 1, none⟩ = some (.slice a z.length cap))
          (first
            | go_keep
            | ((rw [b6.cell (by simpa using hb1)]; assumption))
            | ((rw [b7.cell (by have := b6.size; simp at this ⊢; omega)]; assumption)))
          (first
            | (go_at_call 31
               (first
                 | ((with_reducible refine (rbits_lst a1 k cap (z.take k) _ HLA.out (by omega)).mono ?_)
                    rintro e W6 ⟨rfl, b6⟩
                    rw [HB.out])
                 | ((with_reducible refine (rbits_lst a z.length cap z _ (HLD.out.keepB b6) (by omega)).mono ?_)
                    rintro e W7 ⟨rfl, b7⟩))))
        have B7 := bel_gbn B1 s1 (gb_trans (gb_trans (Drew.gb (w := wr) (w' := wr.drew) ⟨1, rfl⟩ none) (gb_below b6)) (gb_below b7))
        clear b6 b7 d1 hs1 hw1 hdec h22 hd B1 s1 hb1
        have s7 := B7.size
        have hc7 := (B7.block b hb).trans HC.out
        have q0 : W7.cell? ⟨b, 0, none⟩ = some (.int .i64 sz) := by rw [cell_of hc7]; rfl
        obtain ⟨a2, hs2, LA⟩ := lst_to (HL.out.keepB B7) k (by omega)
        obtain ⟨a3, hs3, LB⟩ := lst_from (HL.out.keepB B7) k (by omega)
        obtain ⟨m, hm⟩ : ∃ m, z.length - k = m := ⟨_, rfl⟩
        rw [hm] at hs3 LB
        generalize cap - k = c3 at hs3 LB
        have hm9 : m ≤ 900 := by omega
        have HMD := Lib.hid (show (z.drop k).length = m from by rw [List.length_drop]; exact hm)
        have HMT := Lib.hid (show (z.take k).length = k from by rw [List.length_take]; omega)
        have ga := World.grownBy_alloc W7 (.cells #[.int .i64 sz, .slice none 0 0] 61) none
        have HO8 := Lib.hid (heap_new W7 (.cells #[.int .i64 sz, .slice none 0 0] 61))
        have B8 := bel_gbn B7 s7 ga
        have LA8 := LA.keepN ga
        have LB8 := LB.keepN ga
        have hb7 : b < W7.heap.size := by omega
        have hc8 := (ga.block b hb7 (by simp)).trans hc7
        have s8 : W7.heap.size < (W7.alloc (.cells #[.int .i64 sz, .slice none 0 0] 61)).heap.size := by simp
        have HC8 := Lib.hid hc8
        have HLA8 := Lib.hid LA8
        have HLB8 := Lib.hid LB8
        have HS2 := Lib.hid hs2
        clear hc7 hc8 ga LA LB LA8 LB8 B7 hm hs2
        go_wp2_with fail
        generalize W7.alloc (.cells #[.int .i64 sz, .slice none 0 0] 61) = W8 at *
        generalize W7.heap.size = o at *
        have r0 : W8.cell? ⟨o, 1, none⟩ = some (.slice none 0 0) := by rw [cell_of HO8.out]; rfl
        have r1 : W8.cell? ⟨b, 1, none⟩ = some (.slice a z.length cap) := by rw [cell_of HC8.out]; rfl
        have on : W8.drew.ownsRow W8.heap.size 31 2 (.slice none 0 0) 0 (smpCells []) := World.ownsRow_nil _ _ _ _
        have LBD : Lst W8.drew a3 m c3 (z.drop k) := HLB8.out
        go_region_law ((refine step_append_lst (by rfl) (.tmp 48) (.tmp 54) (by rfl) W8.heap.size (.slice none 0 0) 0 [] (by rfl) (by rfl) on a3 m c3 (z.drop k) (by rfl) LBD (by omega) (Nat.le_refl _) ?_); intro v9 W9 o9 g9; rw [Nat.zero_add, List.nil_append] at o9; obtain ⟨ad, cp, rfl, L9⟩ := owns_lst HMD.out (all64_drop h64.out k) (by omega) o9; have hO9 := (g9.block o s8 (by simp [Value.ownBlock])).trans HO8.out; have c9 : W9.cell? ⟨o, 1, none⟩ = some (.slice none 0 0) := (cell_of hO9).trans rfl; have f9 := frozen_of (o := 1) hO9)
        all_goals
          have g9' : W8.grownBy W9 none := gb_trans (Drew.gb (w := W8) (w' := W8.drew) ⟨1, rfl⟩ none) g9
          have hC9 := (g9'.block b (by omega) (by simp)).trans HC8.out
          have hO9 := (g9'.block o s8 (by simp)).trans HO8.out
          have hbo : b ≠ o := by omega
          have hC10 := (heap_set_ne (w := W9) (o := 1) (v := .slice ad m cp) hbo).trans hC9
          have e1 : (W9.setCell ⟨o, 1, none⟩ (.slice ad m cp)).cell? ⟨b, 1, none⟩ = some (.slice a z.length cap) := by rw [cell_of hC10]; rfl
          have e2 := frozen_of (o := 1) hC10
          have B9 := bel_gbn B8 (by omega) g9'
          have B10 := B9.setCell (p := ⟨o, 1, none⟩) s7 (.slice ad m cp)
          have hO10 : CAt 61 (W9.setCell ⟨o, 1, none⟩ (.slice ad m cp)) o sz (z.drop k) := by
            have hlst := L9
            rw [← HMD.out] at hlst ⊢
            exact CAt.set hO9 hlst (by decide)
          have HO10 := Lib.hid hO10
          have LA10 := (HLA8.out.keepN g9').keep (row := some o) (gb_set (gb_refl W9 (some o)) 1 (.slice ad m cp)) (by intro r e; cases e; exact noSamp_of hO9 (by decide))
          have HLA10 := Lib.hid LA10
          have HC10 := Lib.hid hC10
          have hs2 := HS2.out
          clear hC9 hO9 hO10 LA10 hC10 g9 g9' o9 L9 c9 f9 r0 r1 on LBD hs3 q0
          go_wp2
          go_ret2
          refine ⟨o, rfl, s7, ?_, ?_, gb_set (gb_below B10) _ _⟩
          · rw [HK.out]
            have hlst := HLA10.out
            have := CAt.set (z := z.take k) HC10.out (by rw [HMT.out]; exact hlst) (by decide)
            rw [HMT.out] at this
            exact this
          · rw [HK.out]
            exact CAt.keep HO10.out (gb_set (gb_refl _ _) _ _) (Ne.symm hbo) (noSamp_of HC10.out (by decide))
    · have hw1 := HW1.out
      have hdec : decide ((k : Int) < ((z.length - 1 : Nat) : Int)) = false := by rw [decide_eq_false_iff_not]; omega
      have HK := Lib.hid (halfK_is z k hk1 hk2 HNO.out (fun h => absurd h hkl))
      go_wp2_with fail
      go_quiet (fail)
      have B7 := bel_gbn B1 s1 (Drew.gb (w := wr) (w' := wr.drewN nq) ⟨nq, rfl⟩ none)
      clear d1 hw1 hdec B1 s1 hb1
      generalize wr.drewN nq = W7 at *
      have s7 := B7.size
      have hc7 := (B7.block b hb).trans HC.out
      have q0 : W7.cell? ⟨b, 0, none⟩ = some (.int .i64 sz) := by rw [cell_of hc7]; rfl
      obtain ⟨a2, hs2, LA⟩ := lst_to (HL.out.keepB B7) k (by omega)
      obtain ⟨a3, hs3, LB⟩ := lst_from (HL.out.keepB B7) k (by omega)
      obtain ⟨m, hm⟩ : ∃ m, z.length - k = m := ⟨_, rfl⟩
      rw [hm] at hs3 LB
      generalize cap - k = c3 at hs3 LB
      have hm9 : m ≤ 900 := by omega
      have HMD := Lib.hid (show (z.drop k).length = m from by rw [List.length_drop]; exact hm)
      have HMT := Lib.hid (show (z.take k).length = k from by rw [List.length_take]; omega)
      have ga := World.grownBy_alloc W7 (.cells #[.int .i64 sz, .slice none 0 0] 61) none
      have HO8 := Lib.hid (heap_new W7 (.cells #[.int .i64 sz, .slice none 0 0] 61))
      have B8 := bel_gbn B7 s7 ga
      have LA8 := LA.keepN ga
      have LB8 := LB.keepN ga
      have hb7 : b < W7.heap.size := by omega
      have hc8 := (ga.block b hb7 (by simp)).trans hc7
      have s8 : W7.heap.size < (W7.alloc (.cells #[.int .i64 sz, .slice none 0 0] 61)).heap.size := by simp
      have HC8 := Lib.hid hc8
      have HLA8 := Lib.hid LA8
      have HLB8 := Lib.hid LB8
      have HS2 := Lib.hid hs2
      clear hc7 hc8 ga LA LB LA8 LB8 B7 hm hs2
      go_wp2_with fail
      generalize W7.alloc (.cells #[.int .i64 sz, .slice none 0 0] 61) = W8 at *
      generalize W7.heap.size = o at *
      have r0 : W8.cell? ⟨o, 1, none⟩ = some (.slice none 0 0) := by rw [cell_of HO8.out]; rfl
      have r1 : W8.cell? ⟨b, 1, none⟩ = some (.slice a z.length cap) := by rw [cell_of HC8.out]; rfl
      have on : W8.drew.ownsRow W8.heap.size 31 2 (.slice none 0 0) 0 (smpCells []) := World.ownsRow_nil _ _ _ _
      have LBD : Lst W8.drew a3 m c3 (z.drop k) := HLB8.out
      go_region_law ((refine step_append_lst (by rfl) (.tmp 48) (.tmp 54) (by rfl) W8.heap.size (.slice none 0 0) 0 [] (by rfl) (by rfl) on a3 m c3 (z.drop k) (by rfl) LBD (by omega) (Nat.le_refl _) ?_); intro v9 W9 o9 g9; rw [Nat.zero_add, List.nil_append] at o9; obtain ⟨ad, cp, rfl, L9⟩ := owns_lst HMD.out (all64_drop h64.out k) (by omega) o9; have hO9 := (g9.block o s8 (by simp [Value.ownBlock])).trans HO8.out; have c9 : W9.cell? ⟨o, 1, none⟩ = some (.slice none 0 0) := (cell_of hO9).trans rfl; have f9 := frozen_of (o := 1) hO9)
      all_goals
        have g9' : W8.grownBy W9 none := gb_trans (Drew.gb (w := W8) (w' := W8.drew) ⟨1, rfl⟩ none) g9
        have hC9 := (g9'.block b (by omega) (by simp)).trans HC8.out
        have hO9 := (g9'.block o s8 (by simp)).trans HO8.out
        have hbo : b ≠ o := by omega
        have hC10 := (heap_set_ne (w := W9) (o := 1) (v := .slice ad m cp) hbo).trans hC9
        have e1 : (W9.setCell ⟨o, 1, none⟩ (.slice ad m cp)).cell? ⟨b, 1, none⟩ = some (.slice a z.length cap) := by rw [cell_of hC10]; rfl
        have e2 := frozen_of (o := 1) hC10
        have B9 := bel_gbn B8 (by omega) g9'
        have B10 := B9.setCell (p := ⟨o, 1, none⟩) s7 (.slice ad m cp)
        have hO10 : CAt 61 (W9.setCell ⟨o, 1, none⟩ (.slice ad m cp)) o sz (z.drop k) := by
          have hlst := L9
          rw [← HMD.out] at hlst ⊢
          exact CAt.set hO9 hlst (by decide)
        have HO10 := Lib.hid hO10
        have LA10 := (HLA8.out.keepN g9').keep (row := some o) (gb_set (gb_refl W9 (some o)) 1 (.slice ad m cp)) (by intro r e; cases e; exact noSamp_of hO9 (by decide))
        have HLA10 := Lib.hid LA10
        have HC10 := Lib.hid hC10
        have hs2 := HS2.out
        clear hC9 hO9 hO10 LA10 hC10 g9 g9' o9 L9 c9 f9 r0 r1 on LBD hs3 q0
        go_wp2
        go_ret2
        refine ⟨o, rfl, s7, ?_, ?_, gb_set (gb_below B10) _ _⟩
        · rw [HK.out]
          have hlst := HLA10.out
          have := CAt.set (z := z.take k) HC10.out (by rw [HMT.out]; exact hlst) (by decide)
          rw [HMT.out] at this
          exact this
        · rw [HK.out]
          exact CAt.keep HO10.out (gb_set (gb_refl _ _) _ _) (Ne.symm hbo) (noSamp_of HC10.out (by decide))

end Go.Proofs.Ytjhnajenkoepdaa
