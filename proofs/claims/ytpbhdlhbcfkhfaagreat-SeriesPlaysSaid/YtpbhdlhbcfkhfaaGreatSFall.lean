/-
  Contracts of series.falling$1, falling, Back: the samples of some times, the last one first.
-/
import Derived.Test.YtpbhdlhbcfkhfaaGreatSBackw
namespace Go.Proofs.YtpbhdlhbcfkhfaaGreat
open Go.RowKit Go.Shelf
set_option linter.unusedVariables false
set_option linter.unusedSimpArgs false
attribute [local go_sem] Oper.semAt_some

theorem rev_at {n : Nat} {pre rest : List Nat} {x : Nat} (h : (List.range n).reverse = pre ++ x :: rest) : pre.length < n ∧ n - pre.length = x + 1 ∧ n - (pre ++ [x]).length = x := by
  have hl : pre.length < n := by
    have := congrArg List.length h
    simp at this
    omega
  have e : ((List.range n).reverse)[pre.length]'(by simp; exact hl) = x := by simp only [h]; simp
  rw [List.getElem_reverse] at e
  simp at e
  simp
  omega
/-- What has come of the samples of several chunks, from behind, as far as to place i of chunk j. -/
def outB (p : Int × Int → Bool) (z : List (Int × Int)) (D : List (Int × Int)) (i : Nat) : List (Int × Int) := ((z.drop i ++ D).filter p).reverse
theorem outB_all (p : Int × Int → Bool) (z D : List (Int × Int)) : outB p z D 0 = ((z ++ D).filter p).reverse := by unfold outB; simp
theorem outB_none (p : Int × Int → Bool) (z D : List (Int × Int)) : outB p z D z.length = (D.filter p).reverse := by unfold outB; simp
theorem drop_flat (Z : List (List (Int × Int))) (j : Nat) (hj : j < Z.length) : (Z.drop j).flatten = Z.getD j [] ++ (Z.drop (j + 1)).flatten := by
  rw [List.drop_eq_getElem_cons hj, List.flatten_cons, chunk_get hj]
theorem outB_step (p : Int × Int → Bool) (z D : List (Int × Int)) (i : Nat) (hi : i < z.length) : outB p z D i = outB p z D (i + 1) ++ (if p z[i] = true then [z[i]] else []) := by
  unfold outB
  rw [List.drop_eq_getElem_cons hi, List.cons_append]
  by_cases h : p z[i] = true
  · rw [if_pos h, List.filter_cons_of_pos h, List.reverse_cons]
  · rw [if_neg h, List.filter_cons_of_neg h, List.append_nil]
theorem outB_at (Z : List (List (Int × Int))) (p : Int × Int → Bool) (j i : Nat) (hj : j < Z.length) (hi : i < (Z.getD j []).length) (hp : p ((Z.getD j [])[i]) = true) :
    ∃ rest, (Z.flatten.filter p).reverse = outB p (Z.getD j []) (Z.drop (j + 1)).flatten (i + 1) ++ (Z.getD j [])[i] :: rest := by
  have e0 : Z.flatten = (Z.take j).flatten ++ (Z.getD j [] ++ (Z.drop (j + 1)).flatten) := by
    rw [← drop_flat Z j hj, ← List.flatten_append, List.take_append_drop]
  generalize Z.getD j [] = z at *
  have e1 : z ++ (Z.drop (j + 1)).flatten = z.take i ++ (z[i] :: (z.drop (i + 1) ++ (Z.drop (j + 1)).flatten)) := by
    conv => lhs; rw [← List.take_append_drop i z, List.drop_eq_getElem_cons hi]
    rw [List.append_assoc]; rfl
  refine ⟨(((Z.take j).flatten ++ z.take i).filter p).reverse, ?_⟩
  rw [e0, e1, ← List.append_assoc, List.filter_append, List.filter_cons_of_pos hp, List.reverse_append, List.reverse_cons]
  unfold outB
  rw [List.append_assoc]; rfl

/-- What the loop over the chunks keeps. -/
def FI (J : List (Int × Int) → World → Prop) (M : World → Nat → Prop) (p : Int × Int → Bool) (Z : List (List (Int × Int))) (n yb l : Nat) (w : World) (pre : List Nat) (W : World) : Prop :=
  J (((Z.drop (n - pre.length)).flatten.filter p).reverse) W ∧ Boxed W yb 102 (.func (.yield l) #[] #[]) ∧ ¬ M W yb ∧ Below w.heap.size w W ∧ ∀ k, k < w.heap.size → ¬ M W k

theorem FI.own {J : List (Int × Int) → World → Prop} {M : World → Nat → Prop} {p : Int × Int → Bool} {Z : List (List (Int × Int))} {n yb l B0 B : Nat} {w : World} (hJ : OwnFrom B0 J) (hM : MineOk B0 J M) (h0 : B0 ≤ B) (h1 : w.heap.size ≤ B) : OwnFrom B (FI J M p Z n yb l w) := by
  rintro pre X Y row ⟨j1, j2, j3, j4, j5⟩ hg hr
  have hr' : ∀ r, row = some r → B0 ≤ r ∧ ∃ o : Obj, X.heap[r]? = some o ∧ o.isCells = false := fun r e => ⟨Nat.le_trans h0 (hr r e).1, (hr r e).2⟩
  refine ⟨hJ _ X Y row j1 hg hr', j2.kept hg (fun e => ?_), fun e => j3 (hM.new _ X Y row _ j1 hg hr' e), ?_, fun k hk e => j5 k hk (hM.new _ X Y row k j1 hg hr' e)⟩
  · obtain ⟨_, o, ho, hc⟩ := hr _ e.symm
    rw [show X.heap[yb]? = _ from j2] at ho; cases ho; cases hc
  · exact j4.grown hg j4.size (fun k e => Nat.le_trans h1 (hr k e).1)
theorem FI.mine {J : List (Int × Int) → World → Prop} {M : World → Nat → Prop} {p : Int × Int → Bool} {Z : List (List (Int × Int))} {n yb l B0 B : Nat} {w : World} (hM : MineOk B0 J M) (h0 : B0 ≤ B) : MineOk B (FI J M p Z n yb l w) M :=
  ⟨fun pre X Y row k h hg hr hk => hM.new _ X Y row k h.1 hg (fun r e => ⟨Nat.le_trans h0 (hr r e).1, (hr r e).2⟩) hk, fun pre X k h hk => hM.own _ X k h.1 hk⟩

/-- What the loop over a chunk's samples keeps. -/
def SI (J : List (Int × Int) → World → Prop) (M : World → Nat → Prop) (p : Int × Int → Bool) (z D : List (Int × Int)) (yb l : Nat) (w W3 : World) (pre : List Nat) (W : World) : Prop :=
  J (outB p z D (z.length - pre.length)) W ∧ Boxed W yb 102 (.func (.yield l) #[] #[]) ∧ ¬ M W yb ∧ Below w.heap.size w W ∧ (∀ k, k < w.heap.size → ¬ M W k) ∧ KeepM M W3 W
theorem SI.own {J : List (Int × Int) → World → Prop} {M : World → Nat → Prop} {p : Int × Int → Bool} {z D : List (Int × Int)} {yb l B0 B : Nat} {w W3 : World} (hJ : OwnFrom B0 J) (hM : MineOk B0 J M) (h0 : B0 ≤ B) (h1 : w.heap.size ≤ B) (h2 : W3.heap.size ≤ B) : OwnFrom B (SI J M p z D yb l w W3) := by
  rintro pre X Y row ⟨j1, j2, j3, j4, j5, j6⟩ hg hr
  have hr' : ∀ r, row = some r → B0 ≤ r ∧ ∃ o : Obj, X.heap[r]? = some o ∧ o.isCells = false := fun r e => ⟨Nat.le_trans h0 (hr r e).1, (hr r e).2⟩
  refine ⟨hJ _ X Y row j1 hg hr', j2.kept hg (fun e => ?_), fun e => j3 (hM.new _ X Y row _ j1 hg hr' e), ?_, fun k hk e => j5 k hk (hM.new _ X Y row k j1 hg hr' e), ?_⟩
  · obtain ⟨_, o, ho, hc⟩ := hr _ e.symm
    rw [show X.heap[yb]? = _ from j2] at ho; cases ho; cases hc
  · exact j4.grown hg j4.size (fun k e => Nat.le_trans h1 (hr k e).1)
  · refine ⟨hg.os.trans j6.os, hg.tape.trans j6.tape, hg.output.trans j6.output, Nat.le_trans j6.size hg.size, fun k hk hm => ?_⟩
    obtain ⟨k1, k2⟩ := j6.block k hk hm
    refine ⟨(hg.block k (Nat.lt_of_lt_of_le hk j6.size) (fun e => ?_)).trans k1, fun e => k2 (hM.new _ X Y row k j1 hg hr' e)⟩
    have := (hr k e.symm).1
    omega
theorem SI.mine {J : List (Int × Int) → World → Prop} {M : World → Nat → Prop} {p : Int × Int → Bool} {z D : List (Int × Int)} {yb l B0 B : Nat} {w W3 : World} (hM : MineOk B0 J M) (h0 : B0 ≤ B) : MineOk B (SI J M p z D yb l w W3) M :=
  ⟨fun pre X Y row k h hg hr hk => hM.new _ X Y row k h.1 hg (fun r e => ⟨Nat.le_trans h0 (hr r e).1, (hr r e).2⟩) hk, fun pre X k h hk => hM.own _ X k h.1 hk⟩

set_option maxRecDepth 100000 in
set_option maxHeartbeats 2000000 in
theorem falling_walk (b b0 b1 b2 : Nat) (sz : Int) (s : Ser) (x y : Int) (w : World) (h : SerAt w b sz s) (hs : 128 ≤ sz) (hr : Rising s.z) (hn : s.z.length ≤ 100000) (hc : Cap3 w b0 b1 b2 (.pointer (some ⟨b, 0, none⟩)) x y) :
    SeqAll 83 #[.pointer (some ⟨b0, 0, none⟩), .pointer (some ⟨b1, 0, none⟩), .pointer (some ⟨b2, 0, none⟩)] encS (s.z.filter (inB x y)).reverse (fun k => k < w.heap.size) w := by
  intro l J M W hW hJ hM hR hY hJ0
  obtain ⟨L, ⟨a, cap, hc5, hpt, hk⟩, hg, hf⟩ := h
  have hne := good_ne hg
  have hrz : Rising (zs L).flatten := by rw [hf]; exact hr
  have hLn : L.length ≤ 100000 := by have := flat_ge hne; rw [hf, zs_len] at this; omega
  have hlz : (zs L).flatten.length ≤ 100000 := by rw [hf]; exact hn
  have hw := win_le hrz hne x y
  rw [zs_len] at hw
  have HXS := Lib.hid (win_in hrz hne x y)
  rw [hf] at HXS
  have HC := Lib.hid hc5
  have HPT := Lib.hid hpt
  have HK := Lib.hid hk
  have HRZ := Lib.hid hrz
  have HNE := Lib.hid hne
  have HCP := Lib.hid hc
  have HY := Lib.hid hY
  have HJ := Lib.hid hJ
  have HM := Lib.hid hM
  have HJ0 := Lib.hid hJ0
  have HNR := Lib.hid hR
  obtain ⟨f, hff⟩ : ∃ f, winA (zs L) x y = f := ⟨_, rfl⟩
  obtain ⟨e, hee⟩ : ∃ e, winB (zs L) x y = e := ⟨_, rfl⟩
  rw [hff, hee] at hw HXS
  have HWF := Lib.hid hff
  have HWE := Lib.hid hee
  obtain ⟨a1, S1, P1⟩ := ptrs_lh hpt f e hw.1 hw.2
  rw [← bl_mid] at P1
  rw [← zs_mid] at HXS
  have HYM : Hid (∀ u ∈ midL L f e, u ∈ L) := Lib.hid (fun u hu => List.mem_of_mem_take (List.mem_of_mem_drop hu))
  have HYL := Lib.hid (show (midL L f e).length = e - f from by unfold midL; simp; omega)
  have HKY := Lib.hid (hk.sub HYM.out)
  have HYS := Lib.hid (show (zs (midL L f e)).flatten.length ≤ 100000 from by
    rw [zs_mid]
    have := congrArg (fun l => (List.flatten l).length) (three (zs L) f e hw.1)
    simp only [List.flatten_append, List.length_append] at this
    omega)
  obtain ⟨NL, hNL⟩ : ∃ NL, L.length = NL := ⟨_, rfl⟩
  rw [hNL] at HC HPT hw hLn S1
  have HNL := Lib.hid hNL
  have HP1 := Lib.hid P1
  clear hc5 hpt hk hg hf hrz hne hr hc hff hee hNL hY P1 hJ hM hJ0 hR
  generalize midL L f e = Y at *
  obtain ⟨n, hnn⟩ : ∃ n, e - f = n := ⟨_, rfl⟩
  rw [hnn] at HYL HP1 S1
  have hnb : n ≤ 100000 := by omega
  clear hnn
  obtain ⟨cp1, hcp⟩ : ∃ cp1, cap - f = cp1 := ⟨_, rfl⟩
  rw [hcp] at HP1 S1
  clear hcp
  have HBW := Lib.hid hW
  have sW := hW.size
  clear hW
  refine (callsIn_wide (n := 0)).1 ?_
  refine callsIn_of_wp_marks Tryz.func83 rfl trivial ?_ rfl
  simp only [Tryz.ntmps83, List.size_toArray, List.length_cons, List.length_nil, Nat.reduceAdd, Nat.reduceSub, Array.replicate_succ, Array.replicate_zero, List.push_toArray, List.append_toArray, List.nil_append, List.cons_append]
  refine wpIn_wide.2 ?_
  have bY := Boxed.new W 102 (.func (.yield l) #[] #[])
  have B0 : Below W.heap.size W (W.alloc (.cells #[.func (.yield l) #[] #[]] 102)) := (Below.refl _ W).alloc (Nat.le_refl _) _
  have HYB := Lib.hid bY
  have HB0 := Lib.hid B0
  have HJ1 := Lib.hid (HJ.out [] W _ none HJ0.out (gb_below B0) (fun r e => by cases e))
  have HN1 := Lib.hid (show ∀ k, k < w.heap.size → ¬ M (W.alloc (.cells #[.func (.yield l) #[] #[]] 102)) k from fun k hk e => HNR.out k hk (HM.out.new [] W _ none k HJ0.out (gb_below B0) (fun r e => by cases e) e))
  have HNY := Lib.hid (show ¬ M (W.alloc (.cells #[.func (.yield l) #[] #[]] 102)) W.heap.size from fun e => by
    have h1 := HM.out.new [] W _ none _ HJ0.out (gb_below B0) (fun r e => by cases e) e
    obtain ⟨o, ho, _⟩ := HM.out.own [] W _ HJ0.out h1
    have := heap_lt ho
    omega)
  clear bY B0
  go_wp2_with fail
  generalize W.alloc (.cells #[.func (.yield l) #[] #[]] 102) = W0 at *
  have BW0 := HBW.out.trans (HB0.out.mono sW)
  have CW := HCP.out.keep BW0
  have c0 := CW.1
  have c1 := CW.2.1
  have c2 := CW.2.2
  have s0 := BW0.size
  clear CW
  go_cut [5, 6] from 11 to 18 (fun s5 s6 wx => s5 = .int .i64 (f : Int) ∧ s6 = .int .i64 (e : Int) ∧ Below W0.heap.size W0 wx)
  case first =>
    have BD : Below w.heap.size w W0.drew := BW0.drew
    have HCD : Hid (SCell W0.drew b sz s.ret s.pol s.mx s.line (.slice a NL cap)) := Lib.hid (HC.out.keep (gb_below (row := none) BD) (by simp))
    have HPD : Hid (Ptrs W0.drew a NL cap (bl L)) := Lib.hid (HPT.out.keepB BD)
    have HKD : Hid (Chs W0.drew sz L) := Lib.hid (HK.out.keepB BD)
    go_region_held3 (fun w' => w'.cell? ⟨b0, 0, none⟩ = some (.pointer (some ⟨b, 0, none⟩)) ∧ w'.cell? ⟨b1, 0, none⟩ = some (.int .i64 x) ∧ w'.cell? ⟨b2, 0, none⟩ = some (.int .i64 y))
      (first
        | (exact ⟨c0, c1, c2⟩)
        | (exact HCP.out.keep (BW0.trans (B6.out.mono s0)))
        | go_keep)
      (first
        | (go_at_call 30
           (with_reducible refine (slist_cell b sz _ _ _ _ a NL cap _ HCD.out (by omega)).mono ?_)
           rintro e w' ⟨rfl, rfl⟩)
        | (go_at_call 29
           (with_reducible refine (window_any a NL cap L sz x y _ HPD.out HKD.out (by omega) (by omega) HRZ.out HNE.out (by omega)).mono ?_)
           rintro e W6 ⟨rfl, b6⟩
           rw [HWF.out, HWE.out]
           have B6 : Hid (Below W0.heap.size W0 W6) := Lib.hid ((drew_below (w := W0) (w' := W0.drew) ⟨1, rfl⟩).trans b6)
           clear b6))
    go_wp2_with fail
    go_meet
    exact ⟨rfl, rfl, B6.out⟩
  case rest =>
    obtain ⟨rfl, rfl, B1⟩ := hcut
    generalize wc = W1 at *
    have BW1 := BW0.trans (B1.mono s0)
    have HC1 := Lib.hid (HC.out.keep (gb_below (row := none) BW1) (by simp))
    have d0 := (HCP.out.keep BW1).1
    have HJ2 := Lib.hid (HJ.out [] W0 W1 none HJ1.out (gb_below B1) (fun r e => by cases e))
    have HN2 := Lib.hid (show ∀ k, k < w.heap.size → ¬ M W1 k from fun k hk e => HN1.out k hk (HM.out.new [] W0 W1 none k HJ1.out (gb_below B1) (fun r e => by cases e) e))
    have HNY2 := Lib.hid (show ¬ M W1 W.heap.size from fun e => HNY.out (HM.out.new [] W0 W1 none _ HJ1.out (gb_below B1) (fun r e => by cases e) e))
    have HYB2 := Lib.hid (show Boxed W1 W.heap.size 102 (.func (.yield l) #[] #[]) from (B1.block _ HYB.out.lt).trans HYB.out)
    have sB1 := B1.size
    have hyW0 := HYB.out.lt
    clear c0 c1 c2 B1 HJ1 HN1 HNY HYB HJ0 HNR
    have HBW1 := Lib.hid BW1
    clear BW1
    go_wp2_with fail
    refine (slist_cell b sz _ _ _ _ a NL cap _ HC1.out (by omega)).mono ?_
    rintro e' w' ⟨rfl, rfl⟩
    go_wp2_with fail
    refine (back_chunks_ok a1 n cp1 W1).mono ?_
    rintro e' W2 ⟨rfl, rfl⟩
    clear d0
    have G2 := World.grownBy_alloc W1 (.cells #[.slice a1 n cp1] 50) none
    have cB : (W1.alloc (.cells #[.slice a1 n cp1] 50)).cell? ⟨W1.heap.size, 0, none⟩ = some (.slice a1 n cp1) := by rw [cell_of (heap_new W1 _)]; rfl
    have HB2 := Lib.hid (HBW1.out.alloc HBW1.out.size (.cells #[.slice a1 n cp1] 50))
    have HP2 := Lib.hid (HP1.out.keepB HB2.out)
    have HSQ := Lib.hid (back_chunks W1.heap.size n cp1 a1 (bl Y) _ cB HP2.out (by omega))
    have HJ3 := Lib.hid (HJ.out [] W1 _ none HJ2.out G2 (fun r e => by cases e))
    have HN3 := Lib.hid (show ∀ k, k < w.heap.size → ¬ M (W1.alloc (.cells #[.slice a1 n cp1] 50)) k from fun k hk e => HN2.out k hk (HM.out.new [] W1 _ none k HJ2.out G2 (fun r e => by cases e) e))
    have HNY3 := Lib.hid (show ¬ M (W1.alloc (.cells #[.slice a1 n cp1] 50)) W.heap.size from fun e => HNY2.out (HM.out.new [] W1 _ none _ HJ2.out G2 (fun r e => by cases e) e))
    have HYB3 := Lib.hid (HYB2.out.alloc (.cells #[.slice a1 n cp1] 50))
    have HNB3 := Lib.hid (show ¬ M (W1.alloc (.cells #[.slice a1 n cp1] 50)) W1.heap.size from fun e => by
      have h1 := HM.out.new [] W1 _ none _ HJ2.out G2 (fun r e => by cases e) e
      obtain ⟨o, ho, _⟩ := HM.out.own [] W1 _ HJ2.out h1
      have := heap_lt ho
      omega)
    have hs3 : W.heap.size < (W1.alloc (.cells #[.slice a1 n cp1] 50)).heap.size := by simp; omega
    have HPL : Hid (0 < n → ∀ q, a1 = some q → q.block < w.heap.size) := Lib.hid (fun h0 q hq => by
      obtain ⟨b', off, e, hlt, _⟩ := HP1.out.at_ 0 h0
      rw [hq] at e; cases e; exact hlt)
    clear HJ2 HN2 HNY2 HYB2 G2 cB
    go_wp2_with fail
    generalize W1.alloc (.cells #[.slice a1 n cp1] 50) = W2 at *
    refine (wpIn_wide (n := 0)).1 ?_
    refine range_out (gf := 94) (lb := #[.pointer (some ⟨W1.heap.size, 0, none⟩)]) rfl (enters_of Tryz.func94 (by kernel_rfl) rfl) HSQ.out (Below.refl _ _) (fun _ => rfl)
      (FI J M (inB x y) (zs Y) n W.heap.size l w) M (FI.own HJ.out HM.out (by omega) HB2.out.size) (FI.mine HM.out (by omega))
      (fun k hk => by
        rcases hk with rfl | ⟨h0, q, hq, rfl⟩
        · exact HNB3.out
        · exact HN3.out _ (HPL.out h0 q hq))
      ⟨by rw [show (zs Y).drop (n - ([] : List Nat).length) = [] from List.drop_eq_nil_of_le (by rw [zs_len, HYL.out]; simp)]; exact HJ3.out, HYB3.out, HNY3.out, HB2.out, HN3.out⟩
      (fun j a' X => a' = { tmps := #[.func (.yield l) #[] #[], .pointer (some ⟨b0, 0, none⟩), .pointer (some ⟨b1, 0, none⟩), .pointer (some ⟨b2, 0, none⟩), .pointer (some ⟨W.heap.size, 0, none⟩), .int .i64 (f : Int), .int .i64 (e : Int), undef, ptr ((bl Y).getD j 0), undef, undef, u11, u12, u13, u14, u15, u16, u17, u18, .pointer (some ⟨b, 0, none⟩), .slice a NL cap, .int .i64 (f : Int), .int .i64 (e : Int), .slice a1 n cp1, .func (.func 94) #[] #[.pointer (some ⟨W1.heap.size, 0, none⟩)], .int .i64 (j : Int), ptr ((bl Y).getD j 0), undef, undef, undef, undef, undef, undef, undef, undef, undef, undef, undef, undef, undef, undef, undef, undef, undef, undef, undef, undef, undef], defers := [] })
      (fun _ _ _ _ _ _ h _ _ => h) ?assign ?body ?done
    case assign =>
      intro m l1 pre j rest X K hxs hi hK
      gi_wp2
      exact hK _ _ (gb_refl _ _) hi rfl
    case done =>
      rintro D X hD hi hK
      have hJ9 := hi.1
      rw [show n - (List.range n).reverse.length = 0 from by simp, List.drop_zero, ← HXS.out] at hJ9
      have HJ9 := Lib.hid (HJ.out.putObj (.deferred none) hJ9 (by omega) hK rfl)
      clear hJ9 hi
      gi_wp2
      refine ⟨by simp, .inl ⟨_, _, rfl, run_takeDeferred hK, ?_⟩⟩
      exact ⟨_, results_none rfl _ _ _, ⟨_, rfl⟩, HJ9.out⟩
    case body =>
      rintro m l1 pre j rest a' W3 hxs hl1 ⟨r, hr⟩ hi rfl
      obtain ⟨g1, g2, g3⟩ := rev_at hxs
      obtain ⟨j1, j2, j3, j4, j5⟩ := hi
      rw [g2] at j1
      have hjn : j < n := by omega
      have hjY : j < Y.length := by rw [HYL.out]; exact hjn
      have hjZ : j < (zs Y).length := by rw [zs_len]; exact hjY
      have HQ : Hid (PCk W3 ((bl Y).getD j 0) sz ((zs Y).getD j [])) := Lib.hid ((HKY.out.keepB j4).get (i := j) hjY)
      have hzl : ((zs Y).getD j []).length ≤ 100000 := Nat.le_trans (flat_len_get _ _) HYS.out
      have HAT := Lib.hid (fun i hi hp => outB_at (zs Y) (inB x y) j i hjZ hi hp)
      have HDF := Lib.hid (drop_flat (zs Y) j hjZ)
      have HJ3' := Lib.hid j1
      have HY3 := Lib.hid j2
      have HNY' := Lib.hid j3
      have HB3 := Lib.hid j4
      have HN3' := Lib.hid j5
      have hyW := j2.lt
      have HG3 := Lib.hid g3
      clear j1 j2 j3 j4 j5 g2 g3 hxs
      unfold ptr
      generalize (bl Y).getD j 0 = q at *
      generalize (zs Y).getD j [] = z at *
      generalize ((zs Y).drop (j + 1)).flatten = D at *
      gi_wp2_with fail
      refine ⟨trivial, fun h => by simp [Fence.wide] at h, (CallsIn.inRound l1 (callsIn_wide.2 (all_new q sz z W3 HQ.out (by omega) (by omega)))).mono ?_⟩
      rintro e2 W4 ⟨a4, cap4, rfl, l4, b4, f4⟩
      have HJ4 := Lib.hid (HJ.out _ W3 W4 none HJ3'.out (gb_below b4) (fun r e => by cases e))
      have HY4 := Lib.hid (show Boxed W4 W.heap.size 102 (.func (.yield l) #[] #[]) from (b4.block _ hyW).trans HY3.out)
      have HB4 := Lib.hid (HB3.out.trans (b4.mono HB3.out.size))
      have HK4 := Lib.hid (HM.out.keep HJ3'.out (gb_below b4))
      have HL4 := Lib.hid (show LK M W4 a4 cap4 z from ⟨l4, fun u hu hz => by
        have hlt : u.block < W4.heap.size := by
          rcases l4.2 with h0 | ⟨u', cs, ff, e', hcl⟩
          · omega
          · rw [hu] at e'; cases e'; exact heap_lt hcl
        refine ⟨hlt, fun hm => ?_⟩
        have h1 := HM.out.new _ W3 W4 none u.block HJ3'.out (gb_below b4) (fun r e => by cases e) hm
        obtain ⟨o, ho, _⟩ := HM.out.own _ W3 u.block HJ3'.out h1
        have := heap_lt ho
        have := f4 u hu
        omega⟩)
      have hr4 : W4.heap[l1]? = some (.loop r) := (b4.block _ (heap_lt hr)).trans hr
      have s4 := b4.size
      clear l4 b4 f4 hr HQ HY3
      gi_wp2_with fail
      refine ⟨trivial, fun h => by simp [Fence.wide] at h, (CallsIn.inRound l1 (callsIn_wide.2 (back_samps_ok a4 z.length cap4 W4))).mono ?_⟩
      rintro e2 W5 ⟨rfl, rfl⟩
      have G5 := World.grownBy_alloc W4 (.cells #[.slice a4 z.length cap4] 53) none
      have cB : (W4.alloc (.cells #[.slice a4 z.length cap4] 53)).cell? ⟨W4.heap.size, 0, none⟩ = some (.slice a4 z.length cap4) := by rw [cell_of (heap_new W4 _)]; rfl
      have HSQ5 := Lib.hid (back_samps W4.heap.size z.length cap4 a4 z _ cB (HL4.out.1.keepN G5) (by omega))
      have HJ5 := Lib.hid (HJ.out _ W4 _ none HJ4.out G5 (fun r e => by cases e))
      have HY5 := Lib.hid (HY4.out.alloc (.cells #[.slice a4 z.length cap4] 53))
      have HB5 := Lib.hid (HB4.out.alloc HB4.out.size (.cells #[.slice a4 z.length cap4] 53))
      have HK5 := Lib.hid (HK4.out.trans (HM.out.keep HJ4.out G5))
      have HNB5 := Lib.hid (show ¬ M (W4.alloc (.cells #[.slice a4 z.length cap4] 53)) W4.heap.size from fun e => by
        have h1 := HM.out.new _ W4 _ none _ HJ4.out G5 (fun r e => by cases e) e
        obtain ⟨o, ho, _⟩ := HM.out.own _ W4 _ HJ4.out h1
        have := heap_lt ho
        omega)
      have HNL5 := Lib.hid (show 0 < z.length → ∀ u, a4 = some u → ¬ M (W4.alloc (.cells #[.slice a4 z.length cap4] 53)) u.block from fun hz u hu e => (HL4.out.2 u hu hz).2 (HM.out.new _ W4 _ none _ HJ4.out G5 (fun r e => by cases e) e))
      have HNY5 := Lib.hid ((HK5.out.block _ hyW HNY'.out).2)
      have HN5 := Lib.hid (show ∀ k, k < w.heap.size → ¬ M (W4.alloc (.cells #[.slice a4 z.length cap4] 53)) k from fun k hk => (HK5.out.block k (Nat.lt_of_lt_of_le hk HB3.out.size) (HN3'.out k hk)).2)
      have hr5 := heap_old (o := .cells #[.slice a4 z.length cap4] 53) hr4
      have s5 : W3.heap.size ≤ (W4.alloc (.cells #[.slice a4 z.length cap4] 53)).heap.size := by simp; omega
      clear G5 cB hr4 HJ4 HY4 HB4 HK4
      gi_wp2_with fail
      generalize W4.alloc (.cells #[.slice a4 z.length cap4] 53) = W5 at *
      refine range_in hr5 (gf := 95) (lb := #[.pointer (some ⟨W4.heap.size, 0, none⟩)]) rfl (enters_of Tryz.func95 (by kernel_rfl) rfl) HSQ5.out (Below.refl _ _) (fun _ => rfl)
        (SI J M (inB x y) z D W.heap.size l w W3) M (SI.own HJ.out HM.out (by omega) HB5.out.size s5) (SI.mine HM.out (by omega))
        (fun k hk => by
          rcases hk with rfl | ⟨h0, u, hu, rfl⟩
          · exact HNB5.out
          · exact HNL5.out h0 u hu)
        ⟨by rw [show z.length - ([] : List Nat).length = z.length from rfl, outB_none]; exact HJ5.out, HY5.out, HNY5.out, HB5.out, HN5.out, HK5.out⟩
        (fun i a' X => ∃ Bx, X.heap[Bx]? = some (.cells #[.int .i64 (tOf z i), .int .i64 (vOf z i)] 33 (0, 0)) ∧ a' = { tmps := #[.func (.yield l) #[] #[], .pointer (some ⟨b0, 0, none⟩), .pointer (some ⟨b1, 0, none⟩), .pointer (some ⟨b2, 0, none⟩), .pointer (some ⟨W.heap.size, 0, none⟩), .int .i64 (f : Int), .int .i64 (e : Int), undef, .pointer (some ⟨q, 0, none⟩), undef, .pointer (some ⟨Bx, 0, none⟩), u11, u12, u13, u14, u15, u16, u17, u18, .pointer (some ⟨b, 0, none⟩), .slice a NL cap, .int .i64 (f : Int), .int .i64 (e : Int), .slice a1 n cp1, .func (.func 94) #[] #[.pointer (some ⟨W1.heap.size, 0, none⟩)], .int .i64 (j : Int), .pointer (some ⟨q, 0, none⟩), .pointer (some ⟨q, 0, none⟩), .slice a4 z.length cap4, .func (.func 95) #[] #[.pointer (some ⟨W4.heap.size, 0, none⟩)], .int .i64 (i : Int), .agg #[.int .i64 (tOf z i), .int .i64 (vOf z i)], undef, undef, undef, undef, undef, undef, undef, undef, undef, undef, undef, undef, undef, undef, undef, undef], defers := [] })
        ?hAx ?assign ?body ?done
      case hAx =>
        rintro i a' _ X Y' row ⟨Bx, h2, h3⟩ hg hr
        refine ⟨Bx, ?_, h3⟩
        rw [hg.block Bx (heap_lt h2) (fun e => ?_)]
        · exact h2
        · obtain ⟨_, o, ho, hc⟩ := hr Bx e.symm
          rw [h2] at ho; cases ho; cases hc
      case assign =>
        intro m2 l2 pre2 i rest2 X K hxs2 hi hK
        have hal := SI.own (J := J) (M := M) (p := inB x y) (z := z) (D := D) (yb := W.heap.size) (l := l) (w := w) (W3 := W3) (B := W5.heap.size) HJ.out HM.out (by omega) HB5.out.size s5 pre2 X (X.alloc (.cells #[.int .i64 (tOf z i), .int .i64 (vOf z i)] 33)) none hi (World.grownBy_alloc X _ none) (fun r e => by cases e)
        have HAL := Lib.hid hal
        clear hal hi
        gi_wp2
        exact hK _ _ (World.grownBy_alloc X _ none) HAL.out ⟨X.heap.size, heap_new X _, rfl⟩
      case done =>
        rintro X ⟨j1, j2, j3, j4, j5, j6⟩
        rw [show z.length - (List.range z.length).reverse.length = 0 from by simp, outB_all, ← HDF.out] at j1
        have HFI := Lib.hid (show FI J M (inB x y) (zs Y) n W.heap.size l w (pre ++ [j]) X from ⟨by rw [HG3.out]; exact j1, j2, j3, j4, j5⟩)
        have HK6 := Lib.hid j6
        clear j1 j2 j3 j4 j5 j6
        gi_wp2
        exact ⟨HK6.out, HFI.out⟩
      case body =>
        rintro m2 l2 pre2 i rest2 a' X hxs2 hl2 ⟨r2, hr2⟩ ⟨j1, j2, j3, j4, j5, j6⟩ ⟨Bx, hX, rfl⟩
        obtain ⟨g1', g2', g3'⟩ := rev_at hxs2
        rw [g2'] at j1
        have hil : i < z.length := by omega
        have HU := Lib.hid (show z[i] = (tOf z i, vOf z i) from by rw [tOf_get hil]; unfold vOf; rw [List.getD_eq_getElem?_getD, List.getElem?_eq_getElem hil]; rfl)
        have HST := Lib.hid (outB_step (inB x y) z D i hil)
        rw [HU.out] at HST
        have HATi := Lib.hid (HAT.out i hil)
        rw [HU.out] at HATi
        have HJ6 := Lib.hid j1
        have CR := HCP.out.keep j4
        have c1 := CR.2.1
        have c2 := CR.2.2
        have cy := j2.cell
        generalize tOf z i = T at *
        generalize vOf z i = V at *
        have x0 : X.cell? ⟨Bx, 0, none⟩ = some (.int .i64 T) := by rw [cell_of hX]; rfl
        have x1 : X.cell? ⟨Bx, 1, none⟩ = some (.int .i64 V) := by rw [cell_of hX]; rfl
        have HG3' := Lib.hid g3'
        clear CR hxs2 g1' g2' g3' hX hr2
        by_cases hin : inB x y (T, V) = true
        · have hx1 : x ≤ T := by unfold inB at hin; simp at hin; exact hin.1
          have hy1 : T ≤ y := by unfold inB at hin; simp at hin; exact hin.2
          obtain ⟨rest', hrest⟩ := HATi.out hin
          rw [← HXS.out] at hrest
          obtain ⟨fn, tmps, assign, body, hy, hRR⟩ := HY.out (m2 - 1) _ (T, V) rest' X hrest HJ6.out
          rw [if_pos hin] at HST
          have HR := Lib.hid hRR
          dsimp only [encS] at hy
          have HY6 := Lib.hid j2
          have HN6 := Lib.hid j5
          have HNY6 := Lib.hid j3
          have HB6 := Lib.hid j4
          have HK6 := Lib.hid j6
          clear hRR hrest j1 j2 j3 j4 j5 j6
          gi_wp2_with fail
          refine ⟨fun h => by simp [Fence.wide] at h, RoundIn.mono (F := Fence.wide.inRound l2) HR.out ?_⟩
          rintro e6 W6 ⟨rfl, J7, K7⟩
          have KB7 := K7.below HB6.out.size HN6.out
          have HSI := Lib.hid (show SI J M (inB x y) z D W.heap.size l w W3 (pre2 ++ [i]) W6 from ⟨by rw [HG3'.out, HST.out]; exact J7, (K7.block _ HY6.out.lt HNY6.out).1.trans HY6.out, (K7.block _ HY6.out.lt HNY6.out).2, HB6.out.trans KB7.1, KB7.2, HK6.out.trans K7⟩)
          have HK7 := Lib.hid K7
          clear J7 K7 KB7 hy HR c1 c2 cy x0 x1
          gi_wp2
          exact ⟨HK7.out, HSI.out⟩
        · rw [if_neg hin, List.append_nil] at HST
          have HSI := Lib.hid (show SI J M (inB x y) z D W.heap.size l w W3 (pre2 ++ [i]) X from ⟨by rw [HG3'.out, HST.out]; exact HJ6.out, j2, j3, j4, j5, j6⟩)
          have hxy : ¬ x ≤ T ∨ (x ≤ T ∧ ¬ T ≤ y) := by
            by_cases h1 : x ≤ T
            · exact .inr ⟨h1, fun h2 => hin (by unfold inB; simp; exact ⟨h1, h2⟩)⟩
            · exact .inl h1
          clear hin j1 j2 j3 j4 j5 j6
          rcases hxy with hx1 | ⟨hx1, hy1⟩
          · gi_wp2
            refine ⟨fun _ h => (by cases h), ?_⟩
            gi_wp2
            exact ⟨⟨rfl, rfl, rfl, Nat.le_refl _, fun k _ hm => ⟨rfl, hm⟩⟩, HSI.out⟩
          · gi_wp2
            refine ⟨fun _ h => (by cases h), ?_⟩
            gi_wp2
            exact ⟨⟨rfl, rfl, rfl, Nat.le_refl _, fun k _ hm => ⟨rfl, hm⟩⟩, HSI.out⟩

theorem falling_ok (p : Option Addr) (x y : Int) (w : World) : Calls Tryz.prog 67 #[.pointer p, .int .i64 x, .int .i64 y] w (IterP 83 p x y w) := by
  have HC := Lib.hid (cap3_new w p x y 25)
  have HB := Lib.hid ((((Below.refl w.heap.size w).alloc (Nat.le_refl _) (.cells #[.pointer p] 25)).alloc (by simp) (.cells #[.int .i64 x] 3)).alloc (by simp; omega) (.cells #[.int .i64 y] 3))
  go_enter Tryz.func67, Tryz.ntmps67
  go_wp2
  go_ret
  exact ⟨by simp, HC.out, HB.out⟩

set_option maxRecDepth 100000 in
theorem back_ser (b : Nat) (sz : Int) (s : Ser) (x y : Int) (w : World) (h : SerAt w b sz s) (hs : 128 ≤ sz) (hr : Rising s.z) (hn : s.z.length ≤ 100000) :
    Calls Tryz.prog 46 #[.pointer (some ⟨b, 0, none⟩), .int .i64 x, .int .i64 y] w (LaidP (s.z.filter (inB x y)).reverse w) := by
  have HS := Lib.hid h
  have HR := Lib.hid hr
  have HA := Lib.hid (show All64 (s.z.filter (inB x y)).reverse from fun u hu => h.all64 u (List.mem_filter.1 (List.mem_reverse.1 hu)).1)
  have hl : (s.z.filter (inB x y)).reverse.length ≤ 100000 := by rw [List.length_reverse]; exact Nat.le_trans (List.length_filter_le _ _) hn
  clear h hr
  go_enter Tryz.func46, Tryz.ntmps46
  go_wp2_with fail
  refine (falling_ok (some ⟨b, 0, none⟩) x y w).mono ?_
  rintro e W1 ⟨rfl, c1, b1⟩
  have HC1 := Lib.hid c1
  have HS1 := Lib.hid (HS.out.keepB b1)
  clear c1
  go_wp2_with fail
  refine (gathered_any _ _ _ W1 (enters_of Tryz.func83 (by kernel_rfl) rfl) (fun k => k < W1.heap.size) (fun _ h => h) (falling_walk b _ _ _ sz s x y W1 HS1.out hs HR.out hn HC1.out) hl HA.out).mono ?_
  rintro e W2 ⟨a2, cap2, rfl, l2, b2⟩
  have B2 := b1.trans (b2.mono b1.size)
  have HL2 := Lib.hid l2
  clear l2 b1 b2
  generalize hm : (s.z.filter (inB x y)).reverse.length = m at *
  have HM := Lib.hid hm
  clear hm
  go_wp2
  go_ret
  exact ⟨a2, cap2, by rw [HM.out]; rfl, by rw [HM.out]; exact HL2.out, B2⟩

end Go.Proofs.YtpbhdlhbcfkhfaaGreat
