/-
  Contract of the document's own answer for layer 4: Join.
  Condition: at most 900 samples in all.
-/
import Derived.Test.YtjhnajenkoepdaaCRef
import Derived.Test.YtjhnajenkoepdaaCJoin
namespace Go.Proofs.Ytjhnajenkoepdaa
open Go.RowKit
set_option linter.unusedVariables false
set_option linter.unusedSimpArgs false

set_option maxRecDepth 100000 in
set_option maxHeartbeats 8000000 in
theorem rjoin_ok (b o : Nat) (sz so : Int) (x y : List (Int × Int)) (w : World) (hx : RCk w b sz x) (hy : RCk w o so y) (hne : b ≠ o) (hs : 1 ≤ sz) (hs2 : sz ≤ 4096) (hn : x.length + y.length ≤ 900) :
    Calls Try.prog 34 #[.pointer (some ⟨b, 0, none⟩), .pointer (some ⟨o, 0, none⟩)] w (JoinP 61 b o sz so x y w) := by
  have hb := hx.lt
  have ho := hy.lt
  have HX := Lib.hid hx
  have HY := Lib.hid hy
  obtain ⟨a, cap, hcx, hlx⟩ := hx
  obtain ⟨a2, cap2, hcy, hly⟩ := hy
  have HCX := Lib.hid hcx
  have HCY := Lib.hid hcy
  have HLX := Lib.hid hlx
  have HLY := Lib.hid hly
  have c1 : w.cell? ⟨b, 1, none⟩ = some (.slice a x.length cap) := by rw [cell_of hcx]; rfl
  have c2 : w.cell? ⟨o, 1, none⟩ = some (.slice a2 y.length cap2) := by rw [cell_of hcy]; rfl
  have h8 : IntKind.i64.wrap (8 * sz) = 8 * sz := IntWalk.i64_in _ ⟨by omega, by omega⟩
  clear hcx hlx hcy hly
  have HMM := Lib.hid (meetB_iff x y)
  by_cases hm : meets x y
  · have HE := Lib.hid (show joinE sz x y = 1 from by unfold joinE; rw [HMM.out.2 hm]; rfl)
    obtain ⟨h1, h2, h3⟩ := hm
    have e0 : decide (0 < (x.length : Int)) = true := by rw [decide_eq_true_iff]; omega
    have e0' : decide (0 < x.length) = true := by rw [decide_eq_true_iff]; omega
    have e1 : decide (0 < (y.length : Int)) = true := by rw [decide_eq_true_iff]; omega
    have e1' : decide (0 < y.length) = true := by rw [decide_eq_true_iff]; omega
    obtain ⟨u, u', hu, _, x0, _⟩ := HLX.out.1.at_ (x.length - 1) (by omega)
    obtain ⟨v, v', hv, _, y0, _⟩ := HLY.out.1.at_ 0 (by omega)
    rw [Nat.zero_mul, Nat.add_zero] at y0
    subst hu hv
    obtain ⟨k, hk⟩ : ∃ k, x.length - 1 = k := ⟨_, rfl⟩
    rw [hk] at x0 h3
    have hw : IntKind.i64.wrap ((x.length : Int) - 1) = (k : Int) := by rw [IntWalk.i64_in _ ⟨by omega, by omega⟩]; omega
    have hk0 : (0 : Int) ≤ (k : Int) := by omega
    have hk1 : (k : Int) < (x.length : Int) := by omega
    have hz1 : (0 : Int) < (y.length : Int) := by omega
    clear hk
    have hdec : decide (tOf y 0 ≤ tOf x k) = true := decide_eq_true h3
    clear h3
    generalize tOf x k = t1 at *
    generalize tOf y 0 = t2 at *
    go_enter Try.func34, Try.ntmps34
    go_wp2_with fail
    go_quiet (fail)
    have B1 : Below w.heap.size w (w.drewN nq) := gb_below_none (Drew.gb ⟨nq, rfl⟩ none)
    clear c1 c2 x0 y0
    generalize w.drewN nq = W1 at *
    go_wp2
    go_ret
    refine ⟨by rw [HE.out]; rfl, ?_, ?_, TwoOnly.of (gb_below B1) (gb_refl _ _)⟩
    · unfold joinL
      rw [if_neg (by rw [HE.out]; decide)]
      exact CAt.keepB HX.out B1
    · unfold joinR
      rw [if_neg (by rw [HE.out]; decide)]
      exact CAt.keepB HY.out B1
  · have HM0 := Lib.hid (show joinE sz x y = tookE sz (x ++ y) from by
      unfold joinE; rw [if_neg (fun e => hm (HMM.out.1 e))])
    rcases (show x.length = 0 ∨ (0 < x.length ∧ y.length = 0) ∨ (0 < x.length ∧ 0 < y.length ∧ ¬ tOf y 0 ≤ tOf x (x.length - 1)) by
      by_cases h1 : x.length = 0
      · exact .inl h1
      · by_cases h2 : y.length = 0
        · exact .inr (.inl ⟨by omega, h2⟩)
        · exact .inr (.inr ⟨by omega, by omega, fun e => hm ⟨by omega, by omega, e⟩⟩)) with h1 | ⟨h1, h2⟩ | ⟨h1, h2, h3⟩
    · have e0 : decide (0 < (x.length : Int)) = false := by rw [decide_eq_false_iff_not]; omega
      have e0' : decide (0 < x.length) = false := by rw [decide_eq_false_iff_not]; omega
      clear h1 hm
      go_enter Try.func34, Try.ntmps34
      go_wp2_with fail
      go_quiet (fail)
      have B1 : Below w.heap.size w (w.drewN nq) := gb_below_none (Drew.gb ⟨nq, rfl⟩ none)
      have hX1 : Hid ((w.drewN nq).heap[b]? = _) := HCX
      have hY1 : Hid ((w.drewN nq).heap[o]? = _) := HCY
      clear c1 c2
      generalize w.drewN nq = W1 at *
      have s1 := B1.size
      have d1 : W1.cell? ⟨b, 1, none⟩ = some (.slice a x.length cap) := by rw [cell_of hX1.out]; rfl
      have ge := (Below.refl W1.heap.size W1).alloc (Nat.le_refl _) (.cells #[] 31)
      have oe := owns_empty W1 W1.heap.size (Nat.le_refl _)
      have se : W1.heap.size ≤ (W1.alloc (.cells #[] 31)).heap.size := by simp
      have hbb : b < W1.heap.size := by omega
      have d1e : (W1.alloc (.cells #[] 31)).cell? ⟨b, 1, none⟩ = some (.slice a x.length cap) := by rw [ge.cell hbb]; exact d1
      have LX1 := HLX.out.keepB B1
      have LXe := LX1.keepB ge
      go_wp2_with (at_builtin; (refine wpList_append_lst ?_ (.tmp 43) (.tmp 47) rfl W1.heap.size _ 0 [] rfl rfl oe _ x.length cap x rfl LXe (by omega) se ?_))
      intro v2 W2 o2 g2
      have b2 := ge.grown g2 se (fun k hk => (oe.lt k hk).1)
      have s2 : W1.heap.size ≤ W2.heap.size := b2.size
      have LY2 := (HLY.out.keepB B1).keepB b2
      have hY2 := (b2.block o (by omega)).trans hY1.out
      have d2 : W2.cell? ⟨o, 1, none⟩ = some (.slice a2 y.length cap2) := by rw [cell_of hY2]; rfl
      clear ge oe se LX1 LXe g2 d1 d1e hY2
      go_wp2_with (at_builtin; (refine wpList_append_lst ?_ (.tmp 49) (.tmp 53) rfl W1.heap.size _ x.length x rfl rfl o2 _ y.length cap2 y rfl LY2 (by omega) s2 ?_))
      intro v3 W3 o3 g3
      have b3 := b2.grown g3 s2 (fun k hk => (o2.lt k hk).1)
      have B3 := bel_gbn B1 s1 (gb_below b3)
      obtain ⟨N, hN⟩ : ∃ N, (x ++ y).length = N := ⟨_, rfl⟩
      have HN := Lib.hid hN
      have hN2 : x.length + y.length = N := by rw [← hN, List.length_append]
      rw [hN2] at o3
      have hN3 : N ≤ 900 := by omega
      have h64 : All64 (x ++ y) := all64_app HX.out.all64 HY.out.all64
      obtain ⟨ad, cp, rfl, L3⟩ := owns_lst hN h64 (by omega) o3
      have HLD : Hid (Lst W3.drew ad N cp (x ++ y)) := Lib.hid L3
      have HL3 := Lib.hid L3
      have hX3 := (B3.block b hb).trans HCX.out
      have c0 : W3.cell? ⟨b, 0, none⟩ = some (.int .i64 sz) := by rw [cell_of hX3]; rfl
      have hb3 : b < W3.heap.size := by have := B3.size; omega
      have ho3 : o < W3.heap.size := by have := B3.size; omega
      have HX3 := Lib.hid hX3
      have hle := bitsZ_le (x ++ y)
      rw [hN] at hle
      clear b2 s2 LY2 d2 o2 o3 g3 b3 L3 hX3 h64 hN hN2 hX1 hY1 s1 B1
      by_cases hf : 8 * sz < (bitsZ (x ++ y) : Int)
      all_goals
        have HF := Lib.hid hf
        first | have hd := decide_eq_true hf | have hd := decide_eq_false hf
        go_wp2_with fail
        go_region_held3 (fun w' => w'.cell? ⟨b, 0, none⟩ = some (.int .i64 sz))
          (first
            | go_keep
            | ((rw [b8.cell (by simpa using hb3)]; assumption)))
          (first
            | (go_at_call 31
               (with_reducible refine (rbits_lst ad N cp (x ++ y) _ HLD.out (by omega)).mono ?_)
               rintro e W8 ⟨rfl, b8⟩))
        have g8 : W3.grownBy W8 none := gb_trans (Drew.gb (w := W3) (w' := W3.drew) ⟨1, rfl⟩ none) (gb_below b8)
        have B8 := bel_gbn B3 (by have := B3.size; omega) g8
        have hc8 := (g8.block b hb3 (by simp)).trans HX3.out
        have q1 : W8.cell? ⟨b, 1, none⟩ = some (.slice a x.length cap) := by rw [cell_of hc8]; rfl
        have f1 := frozen_of (o := 1) hc8
        have HC8 := Lib.hid hc8
        have HXY : Hid (CAt 61 W8 o so y) := Lib.hid (CAt.keepB HY.out B8)
        have HXX : Hid (CAt 61 W8 b sz x) := Lib.hid (CAt.keepB HX.out B8)
        have HL8 := Lib.hid (HL3.out.keepN g8)
        clear b8 hc8 c0 h8 g8
        first
          | (have hpos := HF.out
             have hneg : ¬ (bitsZ (x ++ y) : Int) ≤ 8 * sz := by omega
             have HE := Lib.hid (show joinE sz x y = 2 from by rw [HM0.out]; unfold tookE; rw [if_pos hpos])
             clear hpos hneg
             go_wp2
             go_ret
             refine ⟨by rw [HE.out]; rfl, ?_, ?_, TwoOnly.of (gb_below B8) (gb_refl _ _)⟩
             · unfold joinL
               rw [if_neg (by rw [HE.out]; decide)]
               exact HXX.out
             · unfold joinR
               rw [if_neg (by rw [HE.out]; decide)]
               exact HXY.out)
          | (have HE := Lib.hid (show joinE sz x y = 0 from by rw [HM0.out]; unfold tookE; rw [if_neg (by have := HF.out; omega)])
             have hset : CAt 61 (W8.setCell ⟨b, 1, none⟩ (.slice ad N cp)) b sz (x ++ y) := by
               have hlst := HL8.out
               rw [← HN.out] at hlst ⊢
               exact CAt.set HC8.out hlst (by decide)
             have hyset : CAt 61 (W8.setCell ⟨b, 1, none⟩ (.slice ad N cp)) o so y := CAt.keep HXY.out (gb_set (gb_refl W8 (some b)) 1 _) (Ne.symm hne) (noSamp_of HC8.out (by decide))
             obtain ⟨a9, cap9, hc9, _⟩ := hyset
             have r1 : (W8.setCell ⟨b, 1, none⟩ (.slice ad N cp)).cell? ⟨o, 1, none⟩ = some (.slice a9 y.length cap9) := by rw [cell_of hc9]; rfl
             have r2 := frozen_of (o := 1) hc9
             have HC9 := Lib.hid hc9
             have HSET := Lib.hid hset
             clear hset hc9
             go_wp2
             go_ret
             refine ⟨by rw [HE.out]; rfl, ?_, ?_, TwoOnly.of (gb_set (gb_below B8) _ _) (gb_set (gb_refl _ _) _ _)⟩
             · unfold joinL
               rw [if_pos HE.out]
               exact CAt.keep HSET.out (gb_set (gb_refl _ _) _ _) hne (noSamp_of HC9.out (by decide))
             · unfold joinR
               rw [if_pos HE.out]
               exact CAt.set (z := []) HC9.out (Lst.nil _) (by decide))
    · have e0 : decide (0 < (x.length : Int)) = true := by rw [decide_eq_true_iff]; omega
      have e0' : decide (0 < x.length) = true := by rw [decide_eq_true_iff]; omega
      have e1 : decide (0 < (y.length : Int)) = false := by rw [decide_eq_false_iff_not]; omega
      have e1' : decide (0 < y.length) = false := by rw [decide_eq_false_iff_not]; omega
      clear h2 hm
      go_enter Try.func34, Try.ntmps34
      go_wp2_with fail
      go_quiet (fail)
      have B1 : Below w.heap.size w (w.drewN nq) := gb_below_none (Drew.gb ⟨nq, rfl⟩ none)
      have hX1 : Hid ((w.drewN nq).heap[b]? = _) := HCX
      have hY1 : Hid ((w.drewN nq).heap[o]? = _) := HCY
      clear c1 c2
      generalize w.drewN nq = W1 at *
      have s1 := B1.size
      have d1 : W1.cell? ⟨b, 1, none⟩ = some (.slice a x.length cap) := by rw [cell_of hX1.out]; rfl
      have ge := (Below.refl W1.heap.size W1).alloc (Nat.le_refl _) (.cells #[] 31)
      have oe := owns_empty W1 W1.heap.size (Nat.le_refl _)
      have se : W1.heap.size ≤ (W1.alloc (.cells #[] 31)).heap.size := by simp
      have hbb : b < W1.heap.size := by omega
      have d1e : (W1.alloc (.cells #[] 31)).cell? ⟨b, 1, none⟩ = some (.slice a x.length cap) := by rw [ge.cell hbb]; exact d1
      have LX1 := HLX.out.keepB B1
      have LXe := LX1.keepB ge
      go_wp2_with (at_builtin; (refine wpList_append_lst ?_ (.tmp 43) (.tmp 47) rfl W1.heap.size _ 0 [] rfl rfl oe _ x.length cap x rfl LXe (by omega) se ?_))
      intro v2 W2 o2 g2
      have b2 := ge.grown g2 se (fun k hk => (oe.lt k hk).1)
      have s2 : W1.heap.size ≤ W2.heap.size := b2.size
      have LY2 := (HLY.out.keepB B1).keepB b2
      have hY2 := (b2.block o (by omega)).trans hY1.out
      have d2 : W2.cell? ⟨o, 1, none⟩ = some (.slice a2 y.length cap2) := by rw [cell_of hY2]; rfl
      clear ge oe se LX1 LXe g2 d1 d1e hY2
      go_wp2_with (at_builtin; (refine wpList_append_lst ?_ (.tmp 49) (.tmp 53) rfl W1.heap.size _ x.length x rfl rfl o2 _ y.length cap2 y rfl LY2 (by omega) s2 ?_))
      intro v3 W3 o3 g3
      have b3 := b2.grown g3 s2 (fun k hk => (o2.lt k hk).1)
      have B3 := bel_gbn B1 s1 (gb_below b3)
      obtain ⟨N, hN⟩ : ∃ N, (x ++ y).length = N := ⟨_, rfl⟩
      have HN := Lib.hid hN
      have hN2 : x.length + y.length = N := by rw [← hN, List.length_append]
      rw [hN2] at o3
      have hN3 : N ≤ 900 := by omega
      have h64 : All64 (x ++ y) := all64_app HX.out.all64 HY.out.all64
      obtain ⟨ad, cp, rfl, L3⟩ := owns_lst hN h64 (by omega) o3
      have HLD : Hid (Lst W3.drew ad N cp (x ++ y)) := Lib.hid L3
      have HL3 := Lib.hid L3
      have hX3 := (B3.block b hb).trans HCX.out
      have c0 : W3.cell? ⟨b, 0, none⟩ = some (.int .i64 sz) := by rw [cell_of hX3]; rfl
      have hb3 : b < W3.heap.size := by have := B3.size; omega
      have ho3 : o < W3.heap.size := by have := B3.size; omega
      have HX3 := Lib.hid hX3
      have hle := bitsZ_le (x ++ y)
      rw [hN] at hle
      clear b2 s2 LY2 d2 o2 o3 g3 b3 L3 hX3 h64 hN hN2 hX1 hY1 s1 B1
      by_cases hf : 8 * sz < (bitsZ (x ++ y) : Int)
      all_goals
        have HF := Lib.hid hf
        first | have hd := decide_eq_true hf | have hd := decide_eq_false hf
        go_wp2_with fail
        go_region_held3 (fun w' => w'.cell? ⟨b, 0, none⟩ = some (.int .i64 sz))
          (first
            | go_keep
            | ((rw [b8.cell (by simpa using hb3)]; assumption)))
          (first
            | (go_at_call 31
               (with_reducible refine (rbits_lst ad N cp (x ++ y) _ HLD.out (by omega)).mono ?_)
               rintro e W8 ⟨rfl, b8⟩))
        have g8 : W3.grownBy W8 none := gb_trans (Drew.gb (w := W3) (w' := W3.drew) ⟨1, rfl⟩ none) (gb_below b8)
        have B8 := bel_gbn B3 (by have := B3.size; omega) g8
        have hc8 := (g8.block b hb3 (by simp)).trans HX3.out
        have q1 : W8.cell? ⟨b, 1, none⟩ = some (.slice a x.length cap) := by rw [cell_of hc8]; rfl
        have f1 := frozen_of (o := 1) hc8
        have HC8 := Lib.hid hc8
        have HXY : Hid (CAt 61 W8 o so y) := Lib.hid (CAt.keepB HY.out B8)
        have HXX : Hid (CAt 61 W8 b sz x) := Lib.hid (CAt.keepB HX.out B8)
        have HL8 := Lib.hid (HL3.out.keepN g8)
        clear b8 hc8 c0 h8 g8
        first
          | (have hpos := HF.out
             have hneg : ¬ (bitsZ (x ++ y) : Int) ≤ 8 * sz := by omega
             have HE := Lib.hid (show joinE sz x y = 2 from by rw [HM0.out]; unfold tookE; rw [if_pos hpos])
             clear hpos hneg
             go_wp2
             go_ret
             refine ⟨by rw [HE.out]; rfl, ?_, ?_, TwoOnly.of (gb_below B8) (gb_refl _ _)⟩
             · unfold joinL
               rw [if_neg (by rw [HE.out]; decide)]
               exact HXX.out
             · unfold joinR
               rw [if_neg (by rw [HE.out]; decide)]
               exact HXY.out)
          | (have HE := Lib.hid (show joinE sz x y = 0 from by rw [HM0.out]; unfold tookE; rw [if_neg (by have := HF.out; omega)])
             have hset : CAt 61 (W8.setCell ⟨b, 1, none⟩ (.slice ad N cp)) b sz (x ++ y) := by
               have hlst := HL8.out
               rw [← HN.out] at hlst ⊢
               exact CAt.set HC8.out hlst (by decide)
             have hyset : CAt 61 (W8.setCell ⟨b, 1, none⟩ (.slice ad N cp)) o so y := CAt.keep HXY.out (gb_set (gb_refl W8 (some b)) 1 _) (Ne.symm hne) (noSamp_of HC8.out (by decide))
             obtain ⟨a9, cap9, hc9, _⟩ := hyset
             have r1 : (W8.setCell ⟨b, 1, none⟩ (.slice ad N cp)).cell? ⟨o, 1, none⟩ = some (.slice a9 y.length cap9) := by rw [cell_of hc9]; rfl
             have r2 := frozen_of (o := 1) hc9
             have HC9 := Lib.hid hc9
             have HSET := Lib.hid hset
             clear hset hc9
             go_wp2
             go_ret
             refine ⟨by rw [HE.out]; rfl, ?_, ?_, TwoOnly.of (gb_set (gb_below B8) _ _) (gb_set (gb_refl _ _) _ _)⟩
             · unfold joinL
               rw [if_pos HE.out]
               exact CAt.keep HSET.out (gb_set (gb_refl _ _) _ _) hne (noSamp_of HC9.out (by decide))
             · unfold joinR
               rw [if_pos HE.out]
               exact CAt.set (z := []) HC9.out (Lst.nil _) (by decide))
    · have e0 : decide (0 < (x.length : Int)) = true := by rw [decide_eq_true_iff]; omega
      have e0' : decide (0 < x.length) = true := by rw [decide_eq_true_iff]; omega
      have e1 : decide (0 < (y.length : Int)) = true := by rw [decide_eq_true_iff]; omega
      have e1' : decide (0 < y.length) = true := by rw [decide_eq_true_iff]; omega
      obtain ⟨u, u', hu, _, x0, _⟩ := HLX.out.1.at_ (x.length - 1) (by omega)
      obtain ⟨v, v', hv, _, y0, _⟩ := HLY.out.1.at_ 0 (by omega)
      rw [Nat.zero_mul, Nat.add_zero] at y0
      subst hu hv
      obtain ⟨k, hk⟩ : ∃ k, x.length - 1 = k := ⟨_, rfl⟩
      rw [hk] at x0 h3
      have hw : IntKind.i64.wrap ((x.length : Int) - 1) = (k : Int) := by rw [IntWalk.i64_in _ ⟨by omega, by omega⟩]; omega
      have hk0 : (0 : Int) ≤ (k : Int) := by omega
      have hk1 : (k : Int) < (x.length : Int) := by omega
      have hz1 : (0 : Int) < (y.length : Int) := by omega
      clear hk
      have hdec : decide (tOf y 0 ≤ tOf x k) = false := decide_eq_false h3
      clear h3 hm
      generalize tOf x k = t1 at *
      generalize tOf y 0 = t2 at *
      go_enter Try.func34, Try.ntmps34
      go_wp2_with fail
      go_quiet (fail)
      clear x0 y0
      have B1 : Below w.heap.size w (w.drewN nq) := gb_below_none (Drew.gb ⟨nq, rfl⟩ none)
      have hX1 : Hid ((w.drewN nq).heap[b]? = _) := HCX
      have hY1 : Hid ((w.drewN nq).heap[o]? = _) := HCY
      clear c1 c2
      generalize w.drewN nq = W1 at *
      have s1 := B1.size
      have d1 : W1.cell? ⟨b, 1, none⟩ = some (.slice (some ⟨u, u', none⟩) x.length cap) := by rw [cell_of hX1.out]; rfl
      have ge := (Below.refl W1.heap.size W1).alloc (Nat.le_refl _) (.cells #[] 31)
      have oe := owns_empty W1 W1.heap.size (Nat.le_refl _)
      have se : W1.heap.size ≤ (W1.alloc (.cells #[] 31)).heap.size := by simp
      have hbb : b < W1.heap.size := by omega
      have d1e : (W1.alloc (.cells #[] 31)).cell? ⟨b, 1, none⟩ = some (.slice (some ⟨u, u', none⟩) x.length cap) := by rw [ge.cell hbb]; exact d1
      have LX1 := HLX.out.keepB B1
      have LXe := LX1.keepB ge
      go_wp2_with (at_builtin; (refine wpList_append_lst ?_ (.tmp 43) (.tmp 47) rfl W1.heap.size _ 0 [] rfl rfl oe _ x.length cap x rfl LXe (by omega) se ?_))
      intro v2 W2 o2 g2
      have b2 := ge.grown g2 se (fun k hk => (oe.lt k hk).1)
      have s2 : W1.heap.size ≤ W2.heap.size := b2.size
      have LY2 := (HLY.out.keepB B1).keepB b2
      have hY2 := (b2.block o (by omega)).trans hY1.out
      have d2 : W2.cell? ⟨o, 1, none⟩ = some (.slice (some ⟨v, v', none⟩) y.length cap2) := by rw [cell_of hY2]; rfl
      clear ge oe se LX1 LXe g2 d1 d1e hY2
      go_wp2_with (at_builtin; (refine wpList_append_lst ?_ (.tmp 49) (.tmp 53) rfl W1.heap.size _ x.length x rfl rfl o2 _ y.length cap2 y rfl LY2 (by omega) s2 ?_))
      intro v3 W3 o3 g3
      have b3 := b2.grown g3 s2 (fun k hk => (o2.lt k hk).1)
      have B3 := bel_gbn B1 s1 (gb_below b3)
      obtain ⟨N, hN⟩ : ∃ N, (x ++ y).length = N := ⟨_, rfl⟩
      have HN := Lib.hid hN
      have hN2 : x.length + y.length = N := by rw [← hN, List.length_append]
      rw [hN2] at o3
      have hN3 : N ≤ 900 := by omega
      have h64 : All64 (x ++ y) := all64_app HX.out.all64 HY.out.all64
      obtain ⟨ad, cp, rfl, L3⟩ := owns_lst hN h64 (by omega) o3
      have HLD : Hid (Lst W3.drew ad N cp (x ++ y)) := Lib.hid L3
      have HL3 := Lib.hid L3
      have hX3 := (B3.block b hb).trans HCX.out
      have c0 : W3.cell? ⟨b, 0, none⟩ = some (.int .i64 sz) := by rw [cell_of hX3]; rfl
      have hb3 : b < W3.heap.size := by have := B3.size; omega
      have ho3 : o < W3.heap.size := by have := B3.size; omega
      have HX3 := Lib.hid hX3
      have hle := bitsZ_le (x ++ y)
      rw [hN] at hle
      clear b2 s2 LY2 d2 o2 o3 g3 b3 L3 hX3 h64 hN hN2 hX1 hY1 s1 B1
      by_cases hf : 8 * sz < (bitsZ (x ++ y) : Int)
      all_goals
        have HF := Lib.hid hf
        first | have hd := decide_eq_true hf | have hd := decide_eq_false hf
        go_wp2_with fail
        go_region_held3 (fun w' => w'.cell? ⟨b, 0, none⟩ = some (.int .i64 sz))
          (first
            | go_keep
            | ((rw [b8.cell (by simpa using hb3)]; assumption)))
          (first
            | (go_at_call 31
               (with_reducible refine (rbits_lst ad N cp (x ++ y) _ HLD.out (by omega)).mono ?_)
               rintro e W8 ⟨rfl, b8⟩))
        have g8 : W3.grownBy W8 none := gb_trans (Drew.gb (w := W3) (w' := W3.drew) ⟨1, rfl⟩ none) (gb_below b8)
        have B8 := bel_gbn B3 (by have := B3.size; omega) g8
        have hc8 := (g8.block b hb3 (by simp)).trans HX3.out
        have q1 : W8.cell? ⟨b, 1, none⟩ = some (.slice (some ⟨u, u', none⟩) x.length cap) := by rw [cell_of hc8]; rfl
        have f1 := frozen_of (o := 1) hc8
        have HC8 := Lib.hid hc8
        have HXY : Hid (CAt 61 W8 o so y) := Lib.hid (CAt.keepB HY.out B8)
        have HXX : Hid (CAt 61 W8 b sz x) := Lib.hid (CAt.keepB HX.out B8)
        have HL8 := Lib.hid (HL3.out.keepN g8)
        clear b8 hc8 c0 h8 g8
        first
          | (have hpos := HF.out
             have hneg : ¬ (bitsZ (x ++ y) : Int) ≤ 8 * sz := by omega
             have HE := Lib.hid (show joinE sz x y = 2 from by rw [HM0.out]; unfold tookE; rw [if_pos hpos])
             clear hpos hneg
             go_wp2
             go_ret
             refine ⟨by rw [HE.out]; rfl, ?_, ?_, TwoOnly.of (gb_below B8) (gb_refl _ _)⟩
             · unfold joinL
               rw [if_neg (by rw [HE.out]; decide)]
               exact HXX.out
             · unfold joinR
               rw [if_neg (by rw [HE.out]; decide)]
               exact HXY.out)
          | (have HE := Lib.hid (show joinE sz x y = 0 from by rw [HM0.out]; unfold tookE; rw [if_neg (by have := HF.out; omega)])
             have hset : CAt 61 (W8.setCell ⟨b, 1, none⟩ (.slice ad N cp)) b sz (x ++ y) := by
               have hlst := HL8.out
               rw [← HN.out] at hlst ⊢
               exact CAt.set HC8.out hlst (by decide)
             have hyset : CAt 61 (W8.setCell ⟨b, 1, none⟩ (.slice ad N cp)) o so y := CAt.keep HXY.out (gb_set (gb_refl W8 (some b)) 1 _) (Ne.symm hne) (noSamp_of HC8.out (by decide))
             obtain ⟨a9, cap9, hc9, _⟩ := hyset
             have r1 : (W8.setCell ⟨b, 1, none⟩ (.slice ad N cp)).cell? ⟨o, 1, none⟩ = some (.slice a9 y.length cap9) := by rw [cell_of hc9]; rfl
             have r2 := frozen_of (o := 1) hc9
             have HC9 := Lib.hid hc9
             have HSET := Lib.hid hset
             clear hset hc9
             go_wp2
             go_ret
             refine ⟨by rw [HE.out]; rfl, ?_, ?_, TwoOnly.of (gb_set (gb_below B8) _ _) (gb_set (gb_refl _ _) _ _)⟩
             · unfold joinL
               rw [if_pos HE.out]
               exact CAt.keep HSET.out (gb_set (gb_refl _ _) _ _) hne (noSamp_of HC9.out (by decide))
             · unfold joinR
               rw [if_pos HE.out]
               exact CAt.set (z := []) HC9.out (Lst.nil _) (by decide))

end Go.Proofs.Ytjhnajenkoepdaa
