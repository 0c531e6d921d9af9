/-
  Contracts.
-/
import Derived.Test.YtmifpfojhlmbkaaGreatJ14
import Derived.Test.YtmifpfojhlmbkaaGreatJ15
import Derived.Test.YtmifpfojhlmbkaaGreatJ16
namespace Go.Proofs.YtmifpfojhlmbkaaGreat
open Lib (hid)
set_option maxRecDepth 100000
set_option maxHeartbeats 16000000
open Go.RowKit
set_option linter.unusedVariables false
set_option linter.unusedSimpArgs false
def WithP (b : Nat) (sz : Int) (z : List (Int × Int)) (T V p : Int) (w : World) (e : Ending) (w' : World) : Prop :=
  ((newV z T V p).2 ≠ 0 ∧ (∃ v, e = .returned (.tuple #[v, .int .i64 (newV z T V p).2])) ∧ w.grownBy w' (some b)) ∨
  ((newV z T V p).2 = 0 ∧ ∃ v L, e = .returned (.tuple #[v, .int .i64 0]) ∧ PRow w' w.heap.size v (bl L) ∧ Chs w' sz L ∧ (zs L).flatten = insL z T (newV z T V p).1 ∧ (∀ x ∈ zs L, Fit sz x) ∧ (∀ q ∈ bl L, q = b ∨ w.heap.size ≤ q) ∧ 0 < L.length ∧ L.length ≤ z.length + 1 ∧ w.grownBy w' (some b))
theorem newV_two (z : List (Int × Int)) (T V p : Int) (hp : 1 ≤ p ∧ p ≤ 6) : (newV z T V p).2 ≠ 2 := by
  unfold newV
  split
  · rcases six p with h | h | h | h | h | h | h
    all_goals (try subst h)
    all_goals unfold mergeS
    all_goals (try simp)
    · unfold addS; split <;> simp
    · omega
  · simp
def TookP (b : Nat) (sz er : Int) (l : List (Int × Int)) (w : World) (e : Ending) (w' : World) : Prop :=
  ∃ v, e = .returned (.tuple #[v, .int .i64 er]) ∧ PRow w' w.heap.size v [b] ∧ PCk w' b sz l ∧ w.grownBy w' (some b)
theorem with_took (sz : Int) (hs : 128 ≤ sz) (hs2 : sz ≤ 4096) (T V p er : Int) (l : List (Int × Int)) (hT : in64 T) (hV : in64 V) (b : Nat) (z : List (Int × Int)) (w : World) (hl : z.length ≤ 262144) (h : PCk w b sz z) (hr : Rising z) (hP : putL sz z T V p = (er, l)) (he : er ≠ 2) :
    Calls Tryz.prog 262 #[.pointer (some ⟨b, 0, none⟩), .agg #[.int .i64 T, .int .i64 V], .int .i64 p] w (TookP b sz er l w) := by
  have HP := hid hP
  have hblt := h.lt
  have B0 := (Below.refl w.heap.size w).alloc (Nat.le_refl _) (.cells #[.int .i64 T, .int .i64 V] 27)
  have hk0 := CAt.keepN h (World.grownBy_alloc w (.cells #[.int .i64 T, .int .i64 V] 27) none)
  have s0 : (w.alloc (.cells #[.int .i64 T, .int .i64 V] 27)).heap.size = w.heap.size + 1 := by simp
  have heb : (er == 2) = false := by rw [beq_eq_false_iff_ne]; exact he
  clear h hP
  go_enter Tryz.func262, Tryz.ntmps262
  go_wp2_with fail
  generalize w.alloc (.cells #[.int .i64 T, .int .i64 V] 27) = W0 at *
  refine (put_at b sz z T V p er l _ HP.out hk0 (by omega) hs2 hr (by omega) hT hV).mono ?_
  rintro e W1 ⟨rfl, k1, g1⟩
  have G1 := gb_trans (gb_below (row := some b) B0) g1
  have HK1 := hid k1
  clear g1 B0 hk0 k1
  go_wp2
  go_ret2
  exact ⟨_, rfl, PRow.one W1 _ b G1.size, CAt.keepN HK1.out (World.grownBy_alloc W1 _ none), gb_alloc G1 _⟩
theorem with_easy (sz : Int) (hs : 128 ≤ sz) (hs2 : sz ≤ 4096) (T V p : Int) (hT0 : 0 ≤ T) (hT1 : T < 1099511627776) (hV : in64 V) (hp : 1 ≤ p ∧ p ≤ 6) (b : Nat) (z : List (Int × Int)) (w : World) (hl : z.length ≤ 262144) (h : PCk w b sz z) (hr : Rising z)
    (hc : (newV z T V p).2 ≠ 0 ∨ Fit sz (insL z T (newV z T V p).1)) :
    Calls Tryz.prog 262 #[.pointer (some ⟨b, 0, none⟩), .agg #[.int .i64 T, .int .i64 V], .int .i64 p] w (WithP b sz z T V p w) := by
  have hT : in64 T := ⟨by omega, by omega⟩
  by_cases hE : (newV z T V p).2 ≠ 0
  · have hP : putL sz z T V p = ((newV z T V p).2, z) := by unfold putL; rw [if_neg (by omega), if_pos hE]
    refine (with_took sz hs hs2 T V p _ _ hT hV b z w hl h hr hP (newV_two z T V p hp)).mono ?_
    rintro e w' ⟨v, rfl, _, _, g⟩
    exact .inl ⟨hE, ⟨v, rfl⟩, g⟩
  · have hE' : (newV z T V p).2 = 0 := by omega
    have hf : Fit sz (insL z T (newV z T V p).1) := by rcases hc with h | h; exact absurd h hE; exact h
    have hP : putL sz z T V p = (0, insL z T (newV z T V p).1) := by unfold putL; rw [if_neg (by omega), if_neg hE, if_neg (by unfold Fit at hf; omega)]
    refine (with_took sz hs hs2 T V p _ _ hT hV b z w hl h hr hP (by omega)).mono ?_
    rintro e w' ⟨v, rfl, r, k, g⟩
    exact .inr ⟨hE', v, [(b, insL z T (newV z T V p).1)], rfl, r, Chs.one k, by simp [zs], by intro x hx; simp [zs] at hx; subst hx; exact hf, by intro q hq; simp [bl] at hq; exact .inl hq, by simp, by simp, g⟩
theorem with_any (sz : Int) (hs : 128 ≤ sz) (hs2 : sz ≤ 4096) (T V p : Int) (hT0 : 0 ≤ T) (hT1 : T < 1099511627776) (hV : in64 V) (hp : 1 ≤ p ∧ p ≤ 6) (n : Nat) : ∀ (b : Nat) (z : List (Int × Int)) (w : World), z.length ≤ n → z.length ≤ 262144 → PCk w b sz z → Rising z → Fit sz z →
    Calls Tryz.prog 262 #[.pointer (some ⟨b, 0, none⟩), .agg #[.int .i64 T, .int .i64 V], .int .i64 p] w (WithP b sz z T V p w) := by
  induction n with
  | zero =>
    intro b z w hn hl h hr hf
    refine with_easy sz hs hs2 T V p hT0 hT1 hV hp b z w hl h hr (.inr (fit_one hs _ ?_))
    rw [insL_length z T _ hr]; omega
  | succ n ih =>
    intro b z w hn hl h hr hf
    by_cases hc : (newV z T V p).2 ≠ 0 ∨ Fit sz (insL z T (newV z T V p).1)
    · exact with_easy sz hs hs2 T V p hT0 hT1 hV hp b z w hl h hr hc
    · have hE : (newV z T V p).2 = 0 := by
        apply Classical.byContradiction; intro e; exact hc (.inl e)
      have hF : ¬ Fit sz (insL z T (newV z T V p).1) := fun e => hc (.inr e)
      have h2 : 2 ≤ z.length := by
        apply Classical.byContradiction
        intro e
        exact hF (fit_one hs _ (by rw [insL_length z T _ hr]; omega))
      have hP : putL sz z T V p = (2, z) := by unfold putL; rw [if_neg (by omega), if_neg (by omega), if_pos (by unfold Fit at hF; omega)]
      have hT : in64 T := ⟨by omega, by omega⟩
      have HP := hid hP
      have hblt := h.lt
      have HR := hid hr
      have HFT := hid hf
      have hK := halfK_le z h2
      have HH := hid (half_fits hs h2 hf)
      have B0 := (Below.refl w.heap.size w).alloc (Nat.le_refl _) (.cells #[.int .i64 T, .int .i64 V] 27)
      have hk0 := CAt.keepN h (World.grownBy_alloc w (.cells #[.int .i64 T, .int .i64 V] 27) none)
      have hn0 := heap_new w (.cells #[.int .i64 T, .int .i64 V] 27)
      have s0 : (w.alloc (.cells #[.int .i64 T, .int .i64 V] 27)).heap.size = w.heap.size + 1 := by simp
      have HE := hid hE
      have h2b : ((2 : Int) == 2) = true := rfl
      clear h hP hc hF hE hr hf
      go_enter Tryz.func262, Tryz.ntmps262
      go_wp2_with fail
      generalize w.alloc (.cells #[.int .i64 T, .int .i64 V] 27) = W0 at *
      refine (put_at b sz z T V p 2 z _ HP.out hk0 (by omega) hs2 HR.out (by omega) hT hV).mono ?_
      rintro e W1 ⟨rfl, k1, g1⟩
      have G1 := gb_trans (gb_below (row := some b) B0) g1
      have hb0 : W1.heap[w.heap.size]? = some (.cells #[.int .i64 T, .int .i64 V] 27 (0, 0)) := by rw [g1.block _ (by omega) (by simp; omega)]; exact hn0
      have hs1 : w.heap.size + 1 ≤ W1.heap.size := by rw [← s0]; exact g1.size
      clear g1 B0 hk0 hn0 s0
      go_wp2_with fail
      refine (last_ok b sz z _ k1 (by omega) (by omega)).mono ?_
      rintro e W2 ⟨rfl, b2⟩
      have k2 := CAt.keepB k1 b2
      have G2 := gb_trans G1 (gb_below (row := some b) b2)
      have hb2 : W2.heap[w.heap.size]? = some (.cells #[.int .i64 T, .int .i64 V] 27 (0, 0)) := by rw [b2.block _ (by omega)]; exact hb0
      have hs2' : w.heap.size + 1 ≤ W2.heap.size := Nat.le_trans hs1 b2.size
      clear k1 G1 hb0 b2 hs1
      obtain ⟨tl, htl⟩ : ∃ tl, tOf z (z.length - 1) = tl := ⟨_, rfl⟩
      rw [htl]
      have HTL := hid htl
      clear htl
      generalize vOf z (z.length - 1) = vl at *
      generalize decide (0 < z.length) = rl at *
      have hb3 : (W2.alloc (.cells #[.int .i64 tl, .int .i64 vl] 27)).heap[w.heap.size]? = some (.cells #[.int .i64 T, .int .i64 V] 27 (0, 0)) := heap_old hb2
      have k3 := CAt.keepN k2 (World.grownBy_alloc W2 (.cells #[.int .i64 tl, .int .i64 vl] 27) none)
      have G3 := gb_alloc G2 (.cells #[.int .i64 tl, .int .i64 vl] 27)
      have s3 : w.heap.size + 1 ≤ (W2.alloc (.cells #[.int .i64 tl, .int .i64 vl] 27)).heap.size := by simp; omega
      have c0 : (W2.alloc (.cells #[.int .i64 tl, .int .i64 vl] 27)).cell? ⟨w.heap.size, 0, none⟩ = some (.int .i64 T) := (cell_of hb3).trans rfl
      have c1 : (W2.alloc (.cells #[.int .i64 tl, .int .i64 vl] 27)).cell? ⟨w.heap.size, 1, none⟩ = some (.int .i64 V) := (cell_of hb3).trans rfl
      clear k2 G2 hb2 hs2'
      by_cases hlt : tl < T
      · go_wp2_with fail
        generalize W2.alloc (.cells #[.int .i64 tl, .int .i64 vl] 27) = W3 at *
        have HKD : Hid (PCk W3.drew b sz z) := hid k3
        have hxl : w.heap.size < W3.heap.size := by omega
        go_region_held3 (fun w' => w'.cell? ⟨w.heap.size, 0, none⟩ = some (.int .i64 T) ∧ w'.cell? ⟨w.heap.size, 1, none⟩ = some (.int .i64 V))
          (first
            | exact ⟨e0.out, e1.out⟩
            | go_keep)
          (first
            | (go_at_call 212
               (with_reducible refine (size_ok b sz z _ HKD.out).mono ?_)
               rintro e W6 ⟨rfl, rfl⟩)
            | (go_at_call 229
               (with_reducible refine (alone_any sz T V _ hs hs2 hT0 hT1 hV).mono ?_)
               rintro e W5 ⟨o, rfl, ho, p5, b5⟩
               have e0 := hid (show W5.cell? ⟨w.heap.size, 0, none⟩ = some (.int .i64 T) from (b5.cell (p := ⟨w.heap.size, 0, none⟩) hxl).trans c0)
               have e1 := hid (show W5.cell? ⟨w.heap.size, 1, none⟩ = some (.int .i64 V) from (b5.cell (p := ⟨w.heap.size, 1, none⟩) hxl).trans c1)))
        have ho' : W3.heap.size ≤ o := ho
        have k5 := CAt.keepB HKD.out b5
        have G5 := gb_trans G3 (gb_trans (Drew.gb (w := W3) (w' := W3.drew) ⟨1, rfl⟩ (some b)) (gb_below (row := some b) b5))
        have HL := hid (show ∀ a ∈ z, a.1 < T from fun a ha => by
          obtain ⟨i, hi, rfl⟩ := List.mem_iff_getElem.1 ha
          have h1 := rising_le HR.out i (z.length - 1) (by omega) (by omega)
          rw [HTL.out, tOf_get hi] at h1
          omega)
        have HNV := hid (newV_end HR.out V p HL.out)
        have HIN := hid (ins_end HR.out V HL.out)
        have HK5 := hid k5
        have HP5 := hid p5
        clear k3 G3 c0 c1 b5 hb3 k5 p5
        go_wp2
        go_ret2
        refine .inr ⟨HE.out, _, [(b, z), (o, [(T, V)])], rfl, PRow.two W5 _ b o G5.size, ?_, ?_, ?_, ?_, by simp, by simp; omega, gb_alloc G5 _⟩
        · exact (Chs.one (CAt.keepN HK5.out (World.grownBy_alloc W5 _ none))).app (Chs.one (CAt.keepN HP5.out (World.grownBy_alloc W5 _ none)))
        · rw [HNV.out, HIN.out]; simp [zs]
        · intro x hx
          simp [zs] at hx
          rcases hx with rfl | rfl
          · exact HFT.out
          · exact fit_one hs _ (by simp)
        · intro q hq
          simp [bl] at hq
          rcases hq with rfl | rfl
          · exact .inl rfl
          · exact .inr (by omega)
      · go_wp2_with fail
        generalize W2.alloc (.cells #[.int .i64 tl, .int .i64 vl] 27) = W3 at *
        refine (split_ok b sz z _ k3 (by omega) (by omega) h2).mono ?_
        rintro e W4 ⟨o, rfl, ho, p4, q4, g4⟩
        have hb4 : W4.heap[w.heap.size]? = some (.cells #[.int .i64 T, .int .i64 V] 27 (0, 0)) := by rw [g4.block _ (by omega) (by simp; omega)]; exact hb3
        have G4 := gb_trans G3 g4
        have s4 := g4.size
        have HHK := hid (show ∀ k, k = halfK z → Fit sz (z.take k) ∧ Fit sz (z.drop k) from fun k e => by subst e; exact HH.out)
        clear k3 G3 c0 c1 hb3 g4 HH HTL
        obtain ⟨k, hk⟩ : ∃ k, halfK z = k := ⟨_, rfl⟩
        rw [hk] at p4 q4 hK
        have HF := hid (HHK.out k hk.symm)
        clear HHK hk
        go_wp2_with fail
        refine (first_ok o sz (z.drop k) _ q4 (by omega) (by simp; omega)).mono ?_
        rintro e W5 ⟨rfl, b5⟩
        have p5 := CAt.keepB p4 b5
        have q5 := CAt.keepB q4 b5
        have hoW4 := q4.lt
        have G5 := gb_trans G4 (gb_below (row := some b) b5)
        have hb5 : W5.heap[w.heap.size]? = some (.cells #[.int .i64 T, .int .i64 V] 27 (0, 0)) := by rw [b5.block _ (by omega)]; exact hb4
        have s5 := b5.size
        clear p4 q4 G4 hb4 b5
        obtain ⟨tf, htf⟩ : ∃ tf, tOf (z.drop k) 0 = tf := ⟨_, rfl⟩
        rw [htf]
        have HTF := hid (show tOf z k = tf from by rw [← htf]; unfold tOf; rw [getD_drop]; rfl)
        clear htf
        generalize vOf (z.drop k) 0 = vf at *
        generalize decide (0 < (z.drop k).length) = rf at *
        have hb6 : (W5.alloc (.cells #[.int .i64 tf, .int .i64 vf] 27)).heap[w.heap.size]? = some (.cells #[.int .i64 T, .int .i64 V] 27 (0, 0)) := heap_old hb5
        have p6 := CAt.keepN p5 (World.grownBy_alloc W5 (.cells #[.int .i64 tf, .int .i64 vf] 27) none)
        have q6 := CAt.keepN q5 (World.grownBy_alloc W5 (.cells #[.int .i64 tf, .int .i64 vf] 27) none)
        have G6 := gb_alloc G5 (.cells #[.int .i64 tf, .int .i64 vf] 27)
        have s6 : W5.heap.size ≤ (W5.alloc (.cells #[.int .i64 tf, .int .i64 vf] 27)).heap.size := by simp
        have c0 : (W5.alloc (.cells #[.int .i64 tf, .int .i64 vf] 27)).cell? ⟨w.heap.size, 0, none⟩ = some (.int .i64 T) := (cell_of hb6).trans rfl
        have c1 : (W5.alloc (.cells #[.int .i64 tf, .int .i64 vf] 27)).cell? ⟨w.heap.size, 1, none⟩ = some (.int .i64 V) := (cell_of hb6).trans rfl
        have hob : o ≠ b := by omega
        have hwo : w.heap.size ≤ o := by omega
        clear p5 q5 G5 hb5 hb6
        by_cases hlt2 : T < tf
        · have HIF := hid (show ∀ v, insL (z.take k) T v ++ z.drop k = insL z T v from fun v => (ins_front HR.out k (by omega) v p (by rw [HTF.out]; exact hlt2)).1)
          have HNF := hid (show newV (z.take k) T V p = newV z T V p from (ins_front HR.out k (by omega) V p (by rw [HTF.out]; exact hlt2)).2)
          go_wp2_with fail
          generalize W5.alloc (.cells #[.int .i64 tf, .int .i64 vf] 27) = W6 at *
          refine (ih b (z.take k) _ (by simp; omega) (by simp; omega) p6 (rising_take HR.out k) HF.out.1).mono ?_
          rintro e W7 hW7
          unfold WithP at hW7
          rw [HNF.out, HE.out] at hW7
          rcases hW7 with ⟨hx, _⟩ | ⟨_, v7, L7, rfl, r7, ch7, f7, t7, d7, n7, m7, g7⟩
          · exact absurd rfl hx
          · have q7 := CAt.keep q6 g7 hob (PCk.noSamp p6)
            have hno : o ∉ bl L7 := fun hm => by rcases d7 o hm with h | h; exact hob h; omega
            have G7 := gb_trans G6 g7
            have hs7 := g7.size
            clear p6 q6 G6 c0 c1 g7
            have P8 := Ptrs.one W7 o
            have r8 := r7.keepN (World.grownBy_alloc W7 (.cells #[ptr o] 119) none)
            have ch8 := (ch7.app (Chs.one q7)).keepN (World.grownBy_alloc W7 (.cells #[ptr o] 119) none)
            have G8 := gb_alloc G7 (.cells #[ptr o] 119)
            have s8 : W6.heap.size ≤ (W7.alloc (.cells #[ptr o] 119)).heap.size := by simp; omega
            have hlen : (bl L7).length + 1 ≤ 1048576 := by rw [bl_len]; simp only [List.length_take] at m7; omega
            have hw6 : w.heap.size ≤ W6.heap.size := by omega
            unfold ptr at P8 r8 ch8 G8 s8
            have HNV := hid (show (newV (z.take k) T V p).1 = (newV z T V p).1 from by rw [HNF.out])
            go_wp2_with (at_builtin; (refine wpList_append_ptrs ?_ (.tmp 67) (.tmp 69) rfl W6.heap.size _ (bl L7) rfl r8 _ 1 1 [o] rfl P8 hlen s8 ?_))
            intro v9 W9 r9 g9
            have ch9 := ch8.app_keep r8 g9
            have G9 := r8.gb G8 hw6 g9
            have HR9 := hid r9
            have HC9 := hid ch9
            clear P8 r8 ch8 G8 g9 r7 ch7 q7 G7 r9 ch9
            go_wp2
            go_ret2
            refine .inr ⟨HE.out, v9, L7 ++ [(o, z.drop k)], rfl, ?_, HC9.out, ?_, ?_, ?_, by simp, ?_, G9⟩
            · rw [bl_app]; exact HR9.out.base hw6
            · rw [zs_app, List.flatten_append, f7]; simp only [zs, List.map_cons, List.map_nil, List.flatten_cons, List.flatten_nil, List.append_nil]; exact HIF.out _
            · intro x hx
              rw [zs_app] at hx
              rcases List.mem_append.1 hx with h | h
              · exact t7 x h
              · simp [zs] at h; subst h; exact HF.out.2
            · intro q hq
              rw [bl_app] at hq
              rcases List.mem_append.1 hq with h | h
              · rcases d7 q h with h | h
                · exact .inl h
                · exact .inr (by omega)
              · simp [bl] at h; subst h; exact .inr hwo
            · rw [List.length_append]; simp only [List.length_take] at m7; simp; omega
        · have HIF := hid (show ∀ v, z.take k ++ insL (z.drop k) T v = insL z T v from fun v => (ins_back HR.out k (by omega) v p (by rw [HTF.out]; omega)).1)
          have HNF := hid (show newV (z.drop k) T V p = newV z T V p from (ins_back HR.out k (by omega) V p (by rw [HTF.out]; omega)).2)
          go_wp2_with fail
          generalize W5.alloc (.cells #[.int .i64 tf, .int .i64 vf] 27) = W6 at *
          refine (ih o (z.drop k) _ (by simp; omega) (by simp; omega) q6 (rising_drop HR.out k) HF.out.2).mono ?_
          rintro e W7 hW7
          unfold WithP at hW7
          rw [HNF.out, HE.out] at hW7
          rcases hW7 with ⟨hx, _⟩ | ⟨_, v7, L7, rfl, r7, ch7, f7, t7, d7, n7, m7, g7⟩
          · exact absurd rfl hx
          · have p7 := CAt.keep p6 g7 (Ne.symm hob) (PCk.noSamp q6)
            have G7 := gb_past G6 hwo g7
            have hs7 := g7.size
            clear p6 q6 G6 c0 c1 g7
            have r8 := r7.keepN (World.grownBy_alloc W7 (.cells #[ptr b] 119) none)
            have ch8 := ((Chs.one p7).app ch7).keepN (World.grownBy_alloc W7 (.cells #[ptr b] 119) none)
            have G8 := gb_alloc G7 (.cells #[ptr b] 119)
            have h8 := heap_new W7 (.cells #[ptr b] 119)
            have s8 : W6.heap.size ≤ (W7.alloc (.cells #[ptr b] 119)).heap.size := by simp; omega
            have hlen : (bl L7).length ≤ 524288 := by rw [bl_len]; simp only [List.length_drop] at m7; omega
            have hlen0 : 0 < (bl L7).length := by rw [bl_len]; exact n7
            have hw6 : w.heap.size ≤ W6.heap.size := by omega
            have hown : v7.ownBlock ≠ some W7.heap.size := fun e => by have := (World.ownsRow.lt r7 _ e).2; omega
            have HI := hid (insert_any v7 W7.heap.size b (bl L7) _ W6.heap.size r8 hlen0 hlen h8 hown s8)
            have HR8 := hid r8
            have HC8 := hid ch8
            obtain ⟨a7, cp7, rfl, _⟩ := r7.shape
            clear r7 r8 ch8 h8 ch7 p7 G7
            unfold ptr at HI HR8 HC8 G8 s8
            go_wp2_with fail
            refine HI.out.mono ?_
            rintro e W9 ⟨v9, rfl, r9, g9⟩
            have ch9 := HC8.out.app_keep HR8.out g9
            have G9 := HR8.out.gb G8 hw6 g9
            have HR9 := hid r9
            have HC9 := hid ch9
            clear HI HR8 HC8 G8 g9 r9 ch9
            go_wp2
            go_ret2
            refine .inr ⟨HE.out, v9, (b, z.take k) :: L7, rfl, ?_, HC9.out, ?_, ?_, ?_, by simp, ?_, G9⟩
            · exact HR9.out.base hw6
            · show z.take k ++ (zs L7).flatten = _
              rw [f7]; exact HIF.out _
            · intro x hx
              rcases List.mem_cons.1 hx with h | h
              · subst h; exact HF.out.1
              · exact t7 x h
            · intro q hq
              rcases List.mem_cons.1 hq with h | h
              · exact .inl h
              · rcases d7 q h with h | h
                · exact .inr (by omega)
                · exact .inr (by omega)
            · rw [List.length_cons]; simp only [List.length_drop] at m7; omega
end Go.Proofs.YtmifpfojhlmbkaaGreat
