/-
  Contracts.
-/
import Derived.Test.YtmifpfojhlmbkaaGreatJ9
import Derived.Test.YtmifpfojhlmbkaaGreatJ14
import Derived.Deep.DeepCutAuto
import Derived.StillTailTactics
namespace Go.Proofs.YtmifpfojhlmbkaaGreat
open Lib (hid)
set_option maxRecDepth 100000
set_option maxHeartbeats 16000000
open Go.RowKit
set_option linter.unusedVariables false
set_option linter.unusedSimpArgs false
theorem gb_past {a w w' : World} {row : Option Nat} {o : Nat} (h : a.grownBy w row) (hs : a.heap.size ≤ o) (g : w.grownBy w' (some o)) : a.grownBy w' row :=
  ⟨g.os.trans h.os, g.tape.trans h.tape, g.output.trans h.output, Nat.le_trans h.size g.size, fun i hi hr => (g.block i (Nat.lt_of_lt_of_le hi h.size) (by simp; omega)).trans (h.block i hi hr)⟩
def FitP (b : Nat) (sz : Int) (z : List (Int × Int)) (w : World) (e : Ending) (w' : World) : Prop :=
  ∃ v L, e = .returned v ∧ PRow w' w.heap.size v (bl L) ∧ Chs w' sz L ∧ (zs L).flatten = z ∧ (∀ x ∈ zs L, Fit sz x) ∧ (∀ q ∈ bl L, q = b ∨ w.heap.size ≤ q) ∧ L.length ≤ max 1 z.length ∧ w.grownBy w' (some b)
theorem FitP.one {b : Nat} {sz : Int} {z : List (Int × Int)} {w W : World} (hf : Fit sz z) (h : PCk W b sz z) (g : w.grownBy W (some b)) :
    FitP b sz z w (.returned (.slice (some ⟨W.heap.size, 0, none⟩) 1 1)) (W.alloc (.cells #[.pointer (some ⟨b, 0, none⟩)] 119)) :=
  ⟨_, [(b, z)], rfl, PRow.one W _ b g.size, Chs.one (CAt.keepN h (World.grownBy_alloc W _ none)), by simp [zs], by intro x hx; simp [zs] at hx; subst hx; exact hf, by intro q hq; simp [bl] at hq; exact .inl hq, by simp; omega, gb_alloc g _⟩
theorem fitting_any (sz : Int) (hs : 128 ≤ sz) (hs2 : sz ≤ 4096) (n : Nat) : ∀ (b : Nat) (z : List (Int × Int)) (w : World), z.length ≤ n → z.length ≤ 524288 → PCk w b sz z →
    Calls Tryz.prog 143 #[.pointer (some ⟨b, 0, none⟩)] w (FitP b sz z w) := by
  induction n with
  | zero =>
    intro b z w hn hl h
    have hz : z = [] := List.eq_nil_of_length_eq_zero (by omega)
    have HK := hid h
    have hf : Fit sz z := by subst hz; exact fit_one hs _ (by simp)
    have hu : (usedL z : Int) ≤ sz := (used_fit sz z).2 hf
    clear h hz
    go_enter Tryz.func143, Tryz.ntmps143
    go_wp2_with fail
    refine (used_ok b sz z _ HK.out (by omega) (by omega)).mono ?_
    rintro e W1 ⟨rfl, b1⟩
    have k1 := CAt.keepB HK.out b1
    generalize usedL z = u at *
    go_wp2_with fail
    refine (size_ok b sz z _ k1).mono ?_
    rintro e W2 ⟨rfl, rfl⟩
    have HK1 := hid k1
    clear k1 HK
    go_wp2
    go_ret
    exact FitP.one hf HK1.out (gb_below b1)
  | succ n ih =>
    intro b z w hn hl h
    have HK := hid h
    by_cases hf : Fit sz z
    · have hu : (usedL z : Int) ≤ sz := (used_fit sz z).2 hf
      clear h
      go_enter Tryz.func143, Tryz.ntmps143
      go_wp2_with fail
      refine (used_ok b sz z _ HK.out (by omega) (by omega)).mono ?_
      rintro e W1 ⟨rfl, b1⟩
      have k1 := CAt.keepB HK.out b1
      generalize usedL z = u at *
      go_wp2_with fail
      refine (size_ok b sz z _ k1).mono ?_
      rintro e W2 ⟨rfl, rfl⟩
      have HK1 := hid k1
      clear k1 HK
      go_wp2
      go_ret
      exact FitP.one hf HK1.out (gb_below b1)
    · have hu : ¬ (usedL z : Int) ≤ sz := fun e => hf ((used_fit sz z).1 e)
      have h2 : 2 ≤ z.length := by
        apply Classical.byContradiction
        intro hc
        exact hf (fit_one hs z (by omega))
      have hK := halfK_le z h2
      have HF : Hid (∀ k, z.take k ++ z.drop k = z) := hid (fun k => List.take_append_drop k z)
      clear h hf
      have hblt := HK.out.lt
      go_enter Tryz.func143, Tryz.ntmps143
      go_wp2_with fail
      refine (used_ok b sz z _ HK.out (by omega) (by omega)).mono ?_
      rintro e W1 ⟨rfl, b1⟩
      have k1 := CAt.keepB HK.out b1
      generalize usedL z = u at *
      go_wp2_with fail
      refine (size_ok b sz z _ k1).mono ?_
      rintro e W2 ⟨rfl, rfl⟩
      clear HK
      go_wp2_with fail
      refine (split_ok b sz z _ k1 (by omega) (by omega) h2).mono ?_
      rintro e W2 ⟨o, rfl, ho, p2, q2, g2⟩
      have G2 := gb_trans (gb_below (row := some b) b1) g2
      have hob : o ≠ b := by have := b1.size; omega
      clear k1 g2
      generalize halfK z = k at *
      go_wp2_with fail
      refine (ih b (z.take k) _ (by simp; omega) (by simp; omega) p2).mono ?_
      rintro e W3 ⟨v3, L3, rfl, r3, c3, f3, t3, d3, n3, g3⟩
      have q3 := CAt.keep q2 g3 hob (PCk.noSamp p2)
      have hno : o ∉ bl L3 := fun hm => by rcases d3 o hm with h | h; exact hob h; have := q2.lt; omega
      have G3 := gb_trans G2 g3
      have hs3 := g3.size
      have hq2 := q2.lt
      clear p2 q2 g3 G2
      go_wp2_with fail
      refine (ih o (z.drop k) _ (by simp; omega) (by simp; omega) q3).mono ?_
      rintro e W4 ⟨v4, L4, rfl, r4, c4, f4, t4, d4, n4, g4⟩
      have r3' := r3.keep g4 (fun r hr => by cases hr; exact PCk.noPtr q3)
      have c3' := c3.keep g4 (PCk.noSamp q3) hno
      have hw0 : w.heap.size ≤ o := Nat.le_trans b1.size ho
      have G4 := gb_past G3 hw0 g4
      have hs4 := g4.size
      obtain ⟨a4, cap4, rfl, P4⟩ := r4.shape
      have hlen : (bl L3).length + (bl L4).length ≤ 1048576 := by
        rw [bl_len, bl_len]
        simp only [List.length_take, List.length_drop] at n3 n4
        omega
      have hnn : (L3 ++ L4).length ≤ max 1 z.length := by
        rw [List.length_append]
        simp only [List.length_take, List.length_drop] at n3 n4
        omega
      have hw2 : w.heap.size ≤ W2.heap.size := by omega
      clear n3 n4 r4 q3 c3 r3 G3 hno g4
      go_wp2_with (at_builtin; (refine wpList_append_ptrs ?_ (.tmp 18) (.tmp 20) rfl W2.heap.size _ (bl L3) rfl r3' _ _ cap4 (bl L4) rfl P4 hlen (by omega) ?_))
      intro v5 W5 r5 g5
      have c5 := (c3'.app c4).app_keep r3' g5
      have G5 := r3'.gb G4 hw2 g5
      clear P4 r3' c3' c4 g5 G4
      go_wp2
      go_ret
      refine ⟨v5, L3 ++ L4, rfl, ?_, c5, ?_, ?_, ?_, hnn, G5⟩
      · rw [bl_app]; exact r5.base hw2
      · rw [zs_app, List.flatten_append, f3, f4]; exact HF.out k
      · intro x hx
        rw [zs_app] at hx
        rcases List.mem_append.1 hx with h | h
        · exact t3 x h
        · exact t4 x h
      · intro q hq
        rw [bl_app] at hq
        rcases List.mem_append.1 hq with h | h
        · rcases d3 q h with h | h
          · exact .inl h
          · exact .inr (by omega)
        · rcases d4 q h with h | h
          · exact .inr (by omega)
          · exact .inr (by omega)
def SCell (w : World) (b : Nat) (sz ret pol mx line : Int) (v : Value) : Prop := w.heap[b]? = some (.cells #[.int .i64 sz, .int .i64 ret, .int .i64 pol, .int .i64 mx, .int .i64 line, v] 118 (0, 0))
def SMem (w : World) (b : Nat) (sz ret pol mx line : Int) (L : List (Nat × List (Int × Int))) : Prop :=
  ∃ a cap, SCell w b sz ret pol mx line (.slice a L.length cap) ∧ Ptrs w a L.length cap (bl L) ∧ Chs w sz L
theorem SCell.lt {w : World} {b : Nat} {sz ret pol mx line : Int} {v : Value} (h : SCell w b sz ret pol mx line v) : b < w.heap.size := heap_lt h
theorem SCell.noSamp {w : World} {b : Nat} {sz ret pol mx line : Int} {v : Value} (h : SCell w b sz ret pol mx line v) : NoSamp w b := noSamp_of h (by decide)
theorem SCell.noPtr {w : World} {b : Nat} {sz ret pol mx line : Int} {v : Value} (h : SCell w b sz ret pol mx line v) : NoPtr w b := noPtr_of h (by decide)
theorem SCell.keep {w w' : World} {b : Nat} {sz ret pol mx line : Int} {v : Value} {row : Option Nat} (h : SCell w b sz ret pol mx line v) (g : w.grownBy w' row) (hr : row ≠ some b) : SCell w' b sz ret pol mx line v := (g.block b h.lt (Ne.symm hr)).trans h
theorem SMem.keepN {w w' : World} {b : Nat} {sz ret pol mx line : Int} {L : List (Nat × List (Int × Int))} (h : SMem w b sz ret pol mx line L) (g : w.grownBy w' none) : SMem w' b sz ret pol mx line L := by
  obtain ⟨a, cap, hc, hp, hk⟩ := h
  exact ⟨a, cap, hc.keep g (by simp), hp.keepN g, hk.keepN g⟩
theorem SMem.keepB {w w' : World} {b : Nat} {sz ret pol mx line : Int} {L : List (Nat × List (Int × Int))} (h : SMem w b sz ret pol mx line L) (g : Below w.heap.size w w') : SMem w' b sz ret pol mx line L := h.keepN (gb_below g)
theorem SMem.lt {w : World} {b : Nat} {sz ret pol mx line : Int} {L : List (Nat × List (Int × Int))} (h : SMem w b sz ret pol mx line L) : b < w.heap.size := by obtain ⟨a, cap, hc, _⟩ := h; exact hc.lt
theorem lay_near (A B C : List (Nat × List (Int × Int))) : midL (A ++ B ++ C) (A.length - 1) A.length = A.drop (A.length - 1) := by
  unfold midL
  rw [List.append_assoc, List.take_left']
  rfl
theorem lay_next (A B C : List (Nat × List (Int × Int))) : midL (A ++ B ++ C) (A.length + B.length) (min (A ++ B ++ C).length (A.length + B.length + 1)) = C.take 1 := by
  unfold midL
  rw [List.drop_take, List.drop_left' (by rw [List.length_append])]
  cases C with
  | nil => simp
  | cons c C => rw [show min (A ++ B ++ c :: C).length (A.length + B.length + 1) - (A.length + B.length) = 1 from by simp; omega]
theorem lay_ahead (A B C : List (Nat × List (Int × Int))) : (A ++ B ++ C).take (A.length - 1) = A.take (A.length - 1) := by
  rw [List.append_assoc, List.take_append_of_le_length (by omega)]
theorem lay_behind (A B C : List (Nat × List (Int × Int))) : (A ++ B ++ C).drop (min (A ++ B ++ C).length (A.length + B.length + 1)) = C.drop 1 := by
  cases C with
  | nil => simp
  | cons c C =>
    rw [show min (A ++ B ++ c :: C).length (A.length + B.length + 1) = (A ++ B).length + 1 from by simp; omega, ← List.drop_drop, List.drop_left]
theorem zs_take (L : List (Nat × List (Int × Int))) (k : Nat) : zs (L.take k) = (zs L).take k := by simp [zs, List.map_take]
theorem zs_drop (L : List (Nat × List (Int × Int))) (k : Nat) : zs (L.drop k) = (zs L).drop k := by simp [zs, List.map_drop]
theorem bl_take (L : List (Nat × List (Int × Int))) (k : Nat) : bl (L.take k) = (bl L).take k := by simp [bl, List.map_take]
theorem bl_drop (L : List (Nat × List (Int × Int))) (k : Nat) : bl (L.drop k) = (bl L).drop k := by simp [bl, List.map_drop]
theorem zs_near (A P C : List (Nat × List (Int × Int))) : zs (A.drop (A.length - 1) ++ P ++ C.take 1) = nearL (zs A) (zs P) (zs C) := by
  unfold nearL; rw [zs_app, zs_app, zs_drop, zs_take, zs_len]
theorem zs_repl (A M C : List (Nat × List (Int × Int))) : zs (A.take (A.length - 1) ++ M ++ C.drop 1) = (zs A).take ((zs A).length - 1) ++ zs M ++ (zs C).drop 1 := by
  rw [zs_app, zs_app, zs_take, zs_drop, zs_len]
theorem near_whole (A P C : List (List (Int × Int))) : A.flatten ++ P.flatten ++ C.flatten = (A.take (A.length - 1)).flatten ++ (nearL A P C).flatten ++ (C.drop 1).flatten := by
  have e1 : (A.take (A.length - 1)).flatten ++ (A.drop (A.length - 1)).flatten = A.flatten := by rw [← List.flatten_append, List.take_append_drop]
  have e2 : (C.take 1).flatten ++ (C.drop 1).flatten = C.flatten := by rw [← List.flatten_append, List.take_append_drop]
  unfold nearL
  rw [List.flatten_append, List.flatten_append, ← e1, ← e2]
  simp only [List.append_assoc]
theorem parts3 {w : World} {a1 a2 a3 : Option Addr} {n1 n2 n3 c1 c2 c3 : Nat} {x y z : List Nat} (h1 : Ptrs w a1 n1 c1 x) (h2 : Ptrs w a2 n2 c2 y) (h3 : Ptrs w a3 n3 c3 z) :
    PParts (w.alloc (.cells #[.slice a1 n1 c1, .slice a2 n2 c2, .slice a3 n3 c3] 116)) w.heap.size [x, y, z] (fun i => if i = 0 then a1 else if i = 1 then a2 else a3) (fun i => if i = 0 then c1 else if i = 1 then c2 else c3) := by
  have hg := World.grownBy_alloc w (.cells #[.slice a1 n1 c1, .slice a2 n2 c2, .slice a3 n3 c3] 116) none
  have hc : ∀ i, (w.alloc (.cells #[.slice a1 n1 c1, .slice a2 n2 c2, .slice a3 n3 c3] 116)).cell? ⟨w.heap.size, i, none⟩ = (#[Value.slice a1 n1 c1, .slice a2 n2 c2, .slice a3 n3 c3])[i]? := fun i => cell_of (heap_new w _)
  have l1 := h1.len
  have l2 := h2.len
  have l3 := h3.len
  subst l1 l2 l3
  intro i hi
  have hi' : i < 3 := hi
  match i, hi' with
  | 0, _ => exact ⟨by rw [hc 0]; rfl, h1.keepN hg⟩
  | 1, _ => exact ⟨by rw [hc 1]; rfl, h2.keepN hg⟩
  | 2, _ => exact ⟨by rw [hc 2]; rfl, h3.keepN hg⟩
theorem arr_len (sz : Int) (l : List (List (Int × Int))) : (arrL sz l).length ≤ l.length := by
  refine snoc_ind (P := fun l => (arrL sz l).length ≤ l.length) (by simp [arrL]) ?_ l
  intro l c ih
  rw [arrL_snoc, List.length_append, List.length_singleton]
  unfold arrS
  split
  · omega
  · split
    · rename_i h; simp; omega
    · simp; omega
theorem SMem.set {w : World} {b : Nat} {sz ret pol mx line : Int} {v : Value} {L : List (Nat × List (Int × Int))} {a : Option Addr} {n cap : Nat} (h : SCell w b sz ret pol mx line v) (hn : L.length = n) (hp : Ptrs w a n cap (bl L)) (hk : Chs w sz L) :
    SMem (w.setCell ⟨b, 5, none⟩ (.slice a n cap)) b sz ret pol mx line L := by
  subst hn
  have g : w.grownBy (w.setCell ⟨b, 5, none⟩ (.slice a L.length cap)) (some b) := gb_set (gb_refl _ _) _ _
  refine ⟨a, cap, ?_, hp.keep g (fun r hr => by cases hr; exact h.noPtr), ?_⟩
  · have := heap_set (o := 5) (v := .slice a L.length cap) h
    exact this
  · intro x hx
    have hx' := hk x hx
    refine CAt.keep hx' g (fun e => ?_) h.noSamp
    obtain ⟨a', cap', hc', _⟩ := hx'
    rw [e, show w.heap[b]? = _ from h] at hc'
    simp at hc'
def ReplP (b : Nat) (sz ret pol mx line : Int) (Z : List (List (Int × Int))) (w : World) (e : Ending) (w' : World) : Prop :=
  (∃ v, e = .returned v) ∧ (∃ L', SMem w' b sz ret pol mx line L' ∧ zs L' = Z) ∧ w.grownBy w' (some b)
theorem replace_any (b : Nat) (sz ret pol mx line : Int) (A B C P : List (Nat × List (Int × Int))) (ap : Option Addr) (cp : Nat) (w : World) (h : SMem w b sz ret pol mx line (A ++ B ++ C)) (hp : Ptrs w ap P.length cp (bl P)) (hcp : Chs w sz P) (hs : 128 ≤ sz) (hs2 : sz ≤ 4096)
    (hr : Rising ((zs A).flatten ++ (zs P).flatten ++ (zs C).flatten)) (hn : ((zs A).flatten ++ (zs P).flatten ++ (zs C).flatten).length ≤ 262144) (hl : (A ++ B ++ C).length ≤ 262144) (hlp : P.length ≤ 200000) :
    Calls Tryz.prog 144 #[.pointer (some ⟨b, 0, none⟩), .int .i64 (A.length : Int), .int .i64 ((A.length + B.length : Nat) : Int), .slice ap P.length cp] w (ReplP b sz ret pol mx line (replL sz (zs A) (zs P) (zs C)) w) := by
  obtain ⟨a, cap, hc, hpt, hk⟩ := h
  have HN1 := hid (lay_near A B C)
  have HN2 := hid (lay_next A B C)
  have HN3 := hid (lay_ahead A B C)
  have HN4 := hid (lay_behind A B C)
  have HZN := hid (zs_near A P C)
  have HZR := hid (fun M => zs_repl A M C)
  have HCL : C.length = (A ++ B ++ C).length - (A.length + B.length) := by simp; omega
  have HRN := hid (show Rising (nearL (zs A) (zs P) (zs C)).flatten from by rw [near_whole] at hr; exact rising_right (rising_left hr))
  have HLN := hid (show (nearL (zs A) (zs P) (zs C)).flatten.length ≤ 262144 from by rw [near_whole, List.length_append, List.length_append] at hn; omega)
  have HRE := hid (show replL sz (zs A) (zs P) (zs C) = (zs A).take ((zs A).length - 1) ++ arrL sz (nearL (zs A) (zs P) (zs C)) ++ (zs C).drop 1 from rfl)
  have hAl : A.length ≤ (A ++ B ++ C).length := by rw [List.length_append, List.length_append]; omega
  have hBl : A.length + B.length ≤ (A ++ B ++ C).length := by rw [List.length_append, List.length_append]; omega
  have HSU1 := hid (show ∀ x ∈ A.drop (A.length - 1) ++ C.take 1, x ∈ A ++ B ++ C from fun x hx => by
    rcases List.mem_append.1 hx with h | h
    · have := List.mem_of_mem_drop h; simp [this]
    · have := List.mem_of_mem_take h; simp [this])
  have HSU2 := hid (show ∀ x ∈ A.take (A.length - 1) ++ C.drop 1, x ∈ A ++ B ++ C from fun x hx => by
    rcases List.mem_append.1 hx with h | h
    · have := List.mem_of_mem_take h; simp [this]
    · have := List.mem_of_mem_drop h; simp [this])
  have HNL : (A.drop (A.length - 1) ++ P ++ C.take 1).length ≤ P.length + 2 := by simp; omega
  have HNC : (A.drop (A.length - 1)).length + (C.take 1).length ≤ 2 := by simp; omega
  generalize hL : A ++ B ++ C = L at *
  generalize hM : A.length - 1 = lf at *
  generalize hNN : L.length = N at *
  generalize hm : A.length + B.length = m at *
  generalize hf : A.length = f at *
  generalize hR : min N (m + 1) = rt at *
  generalize hnp : P.length = np at *
  have q1 : lf ≤ f := by omega
  have q2 : m ≤ rt := by omega
  have q3 : rt ≤ N := by omega
  have q4 : f ≤ m := by omega
  obtain ⟨a1, S1, P1⟩ := ptrs_lh hpt lf f q1 (by omega)
  obtain ⟨a2, S2, P2⟩ := ptrs_lh hpt m rt q2 q3
  obtain ⟨a3, S3, P3⟩ := ptrs_h hpt lf (by omega)
  obtain ⟨a4, S4, P4⟩ := ptrs_l hpt rt q3
  rw [← bl_mid, HN1.out] at P1
  rw [← bl_mid, HN2.out] at P2
  rw [← bl_take, HN3.out] at P3
  rw [← bl_drop, HN4.out] at P4
  have c5 : ∀ W : World, Below w.heap.size w W → W.cell? ⟨b, 5, none⟩ = some (.slice a N cap) := fun W hW => by rw [hW.cell hc.lt, cell_of hc]; rfl
  have hblt := hc.lt
  have HC5 := hid c5
  have HC := hid hc
  have HK := hid hk
  have HP := hid hp
  have HCP := hid hcp
  have HP1 := hid P1
  have HP2 := hid P2
  have HP3 := hid P3
  have HP4 := hid P4
  have HMF := hid hM
  have HR := hid hR
  have HL0 := hid hL
  have HNP := hid hnp
  have HLL := hid (show L.length ≤ 262144 from by rw [hNN]; exact hl)
  clear c5 P1 P2 P3 P4 hM hR hc hk hp hcp hpt hL hNN hm hf hnp hr hn HCL HNL
  have cw := HC5.out w (Below.refl _ _)
  go_enter Tryz.func144, Tryz.ntmps144
  go_upto_region 0 with fail
  go_cut [8, 9] (fun s8 s9 wx => s8 = .int .i64 (lf : Int) ∧ s9 = .int .i64 (rt : Int) ∧ Below w.heap.size w wx)
  case first =>
    have hx := HMF.out
    have hy := HR.out
    have HX := hid hx
    have HY := hid hy
    clear hx hy HMF HR
    have hd1 : ((f : Int) - 1 ≤ 0) ∨ ¬ ((f : Int) - 1 ≤ 0) := by omega
    have hd3 : ((N : Int) ≤ (m : Int) + 1) ∨ ¬ ((N : Int) ≤ (m : Int) + 1) := by omega
    rcases hd1 with hd1 | hd1 <;> rcases hd3 with hd3 | hd3
    all_goals
      go_quiet (fail)
      go_wp2_with fail
      go_meet
      have hx := HX.out
      have hy := HY.out
      refine ⟨?_, ?_, drew_below ⟨_, rfl⟩⟩
      · congr 1; omega
      · congr 1; omega
  case rest =>
    obtain ⟨rfl, rfl, B1⟩ := hcut
    generalize wc = W1 at *
    have c1 := HC5.out W1 B1
    go_wp2_with fail
    refine wp_region_still_tail 15 (by kernel_rfl) (by kernel_rfl) ?_
    simp only [List.take_succ_cons, List.take_zero, List.drop_succ_cons, List.drop_zero]
    change wpStill _ _ W1.drew (fun a' => wpList _ _ _ _ a' W1.drew) _ _
    have B2 := B1.drew
    have c2 := HC5.out W1.drew B2
    generalize W1.drew = W2 at *
    repeat still_step
    refine wpStill_nil ?_
    have s2 := B2.size
    have HQ := hid (parts3 (HP1.out.keepB B2) (HP.out.keepB B2) (HP2.out.keepB B2))
    have B3 := B2.alloc s2 (.cells #[.slice a1 (f - lf) (cap - lf), .slice ap np cp, .slice a2 (rt - m) (cap - m)] 116)
    have hsz3 : W2.heap.size < (W2.alloc (.cells #[.slice a1 (f - lf) (cap - lf), .slice ap np cp, .slice a2 (rt - m) (cap - m)] 116)).heap.size := by simp
    clear c1 B1
    go_wp2_with fail
    generalize W2.alloc (.cells #[.slice a1 (f - lf) (cap - lf), .slice ap np cp, .slice a2 (rt - m) (cap - m)] 116) = W3 at *
    have HFL := hid (show [bl (A.drop lf), bl P, bl (C.take 1)].flatten = bl (A.drop lf ++ P ++ C.take 1) from by rw [bl_app, bl_app]; simp)
    have hln : (A.drop lf ++ P ++ C.take 1).length ≤ 200002 := by rw [List.length_append, List.length_append, HNP.out]; omega
    refine (concat_any W2.heap.size _ _ _ 3 W3 rfl HQ.out hsz3 (by rw [HFL.out, bl_len]; omega) (by omega)).mono ?_
    rintro e W4 ⟨v4, rfl, r4, b4⟩
    rw [HFL.out] at r4
    have B4 := B3.trans (b4.mono B3.size)
    clear B3 b4 HQ hsz3 c2 B2 s2
    have HKN := hid (show Chs W4 sz (A.drop lf ++ P ++ C.take 1) from by
      have h1 := (HK.out.keepB B4).sub HSU1.out
      intro x hx
      rcases List.mem_append.1 hx with h | h
      · rcases List.mem_append.1 h with h | h
        · exact h1 x (by simp [h])
        · exact HCP.out.keepB B4 x h
      · exact h1 x (by simp [h]))
    obtain ⟨a5, cap5, rfl, P5⟩ := r4.shape
    rw [bl_len] at P5 ⊢
    have HNR := hid (show Rising (zs (A.drop lf ++ P ++ C.take 1)).flatten from by rw [HZN.out]; exact HRN.out)
    have HNN := hid (show (zs (A.drop lf ++ P ++ C.take 1)).flatten.length ≤ 262144 from by rw [HZN.out]; exact HLN.out)
    generalize hNear : A.drop lf ++ P ++ C.take 1 = NR at *
    obtain ⟨nr, hnr⟩ : ∃ nr, NR.length = nr := ⟨_, rfl⟩
    rw [hnr] at hln P5 ⊢
    have HNRL := hid hnr
    have HP5 := hid P5
    clear r4 P5 hnr hNear
    have c4 := HC5.out W4 B4
    go_wp2_with fail
    have HPD : Hid (Ptrs W4.drew a5 nr cap5 (bl NR)) := HP5
    have HKD : Hid (Chs W4.drew sz NR) := HKN
    have B4D : Below w.heap.size w W4.drew := B4.drew
    have hlA : A.length ≤ 262144 := by
      have := congrArg List.length HL0.out
      rw [List.length_append, List.length_append] at this
      have := HLL.out
      omega
    have hlC : C.length ≤ 262144 := by
      have := congrArg List.length HL0.out
      rw [List.length_append, List.length_append] at this
      have := HLL.out
      omega
    have hnA : (zs NR).length ≤ 200002 := by rw [zs_len, HNRL.out]; exact hln
    go_region_with
      (first
        | (go_at_call 215
           (with_reducible refine (arranged_any a5 nr cap5 NR sz _ HPD.out HKD.out hs hs2 (by have := HNN.out; omega) HNR.out (by omega)).mono ?_)
           rintro e W6 ⟨v6, M, rfl, r6, ch6, hz6, b6⟩
           have B6 := hid (B4D.trans (b6.mono B4D.size))
           have c6 := HC5.out W6 B6.out
           have HZ6 := hid hz6
           have HC6 := hid ch6
           obtain ⟨a6, cap6, rfl, P6⟩ := r6.shape
           rw [bl_len] at P6 ⊢
           have HQ6 := hid (parts3 (HP3.out.keepB B6.out) P6 (HP4.out.keepB B6.out))
           have HM6 := hid (show M.length ≤ 200002 from by rw [← zs_len, hz6]; exact Nat.le_trans (arr_len sz _) hnA)
           have HS6 := hid (show [bl (A.take lf), bl M, bl (C.drop 1)].flatten.length ≤ 1048576 from by
             have h6 := HM6.out
             have h1 : (A.take lf).length ≤ A.length := by rw [List.length_take]; omega
             have h2 : (C.drop 1).length ≤ C.length := by rw [List.length_drop]; omega
             simp only [List.flatten_cons, List.flatten_nil, List.length_append, bl_len, List.length_nil]; omega)
           have hb6 : b < W6.heap.size := Nat.lt_of_lt_of_le hblt B6.out.size
           have HFL7 := hid (show [bl (A.take lf), bl M, bl (C.drop 1)].flatten = bl (A.take lf ++ M ++ C.drop 1) from by rw [bl_app, bl_app]; simp)
           generalize hm6 : M.length = m6 at *
           have HM := hid hm6
           clear hm6
           clear r6 ch6 hz6 P6)
        | (go_at_call 214
           (with_reducible refine (concat_any W6.heap.size _ _ _ 3 _ rfl HQ6.out (by simp) HS6.out (by omega)).mono ?_)
           rintro e W7 ⟨v7, rfl, r7, b7⟩
           have b67 : Below W6.heap.size W6 W7 := ((Below.refl W6.heap.size W6).alloc (Nat.le_refl _) _).trans (b7.mono (by simp))
           have B7 := hid (B6.out.trans (b67.mono B6.out.size))
           have H7 : Hid (W7.heap[b]? = _) := hid ((B7.out.block b hblt).trans HC.out)
           have c7 := HC5.out W7 B7.out
           have f7 := frozen_of (o := 5) H7.out
           rw [HFL7.out] at r7
           obtain ⟨a7, cap7, rfl, P7⟩ := r7.shape
           rw [bl_len] at P7 ⊢
           generalize hn7 : (A.take lf ++ M ++ C.drop 1).length = n7 at *
           have HN7 := hid hn7
           clear hn7
           have HP7 := hid P7
           have HC7 := hid (HC6.out.keepB b67)
           clear b67 P7 r7 b7))
    all_goals
      have HZ7 := hid (show zs (A.take lf ++ M ++ C.drop 1) = replL sz (zs A) (zs P) (zs C) from by rw [HZR.out, HZ6.out, HZN.out]; exact HRE.out.symm)
      have HK7 := hid (show Chs W7 sz (A.take lf ++ M ++ C.drop 1) from by
        have h1 := (HK.out.keepB B7.out).sub HSU2.out
        intro x hx
        rcases List.mem_append.1 hx with h | h
        · rcases List.mem_append.1 h with h | h
          · exact h1 x (by simp [h])
          · exact HC7.out x h
        · exact h1 x (List.mem_append.2 (.inr h)))
      go_end0
      exact ⟨⟨_, rfl⟩, ⟨_, SMem.set H7.out HN7.out HP7.out HK7.out, HZ7.out⟩, gb_set (gb_below B7.out) _ _⟩
theorem flat_ge {Z : List (List (Int × Int))} (h : ∀ z ∈ Z, z ≠ []) : Z.length ≤ Z.flatten.length := by
  induction Z with
  | nil => simp
  | cons a l ih =>
    have h1 := ih (fun z hz => h z (by simp [hz]))
    have h2 : 0 < a.length := by
      have := h a (by simp)
      cases a with
      | nil => exact absurd rfl this
      | cons x y => simp
    rw [List.flatten_cons, List.length_append, List.length_cons]; omega
theorem good_ne {sz : Int} {Z : List (List (Int × Int))} (h : Good sz Z) : ∀ z ∈ Z, z ≠ [] := fun z hz => (h.1 z hz).1
theorem good_nil (sz : Int) : Good sz [] := ⟨by simp, trivial⟩
theorem put_place {Z : List (List (Int × Int))} (hr : Rising Z.flatten) (hn : ∀ z ∈ Z, z ≠ []) (h0 : 0 < Z.length) (T : Int) :
    begL Z T - 1 < Z.length ∧ (∀ a ∈ (Z.take (begL Z T - 1)).flatten, a.1 < T) ∧ (∀ a ∈ (Z.drop (begL Z T - 1 + 1)).flatten, T < a.1) := by
  have hl := begL_le Z T
  refine ⟨by omega, beg_ahead hr hn T, ?_⟩
  intro a ha
  refine beg_behind hr hn T a ?_
  by_cases h : begL Z T = 0
  · rw [h] at ha ⊢
    obtain ⟨z, hz, haz⟩ := List.mem_flatten.1 ha
    exact List.mem_flatten.2 ⟨z, by rw [List.drop_zero]; exact List.mem_of_mem_drop hz, haz⟩
  · rwa [show begL Z T - 1 + 1 = begL Z T from by omega] at ha
theorem split_at {Z : List (List (Int × Int))} {k : Nat} (h : k < Z.length) : Z = Z.take k ++ [Z.getD k []] ++ Z.drop (k + 1) := by
  rw [chunk_get h]
  conv => lhs; rw [← List.take_append_drop k Z, List.drop_eq_getElem_cons h]
  simp
theorem put_flat {Z : List (List (Int × Int))} (hr : Rising Z.flatten) (hn : ∀ z ∈ Z, z ≠ []) (h0 : 0 < Z.length) (T V p : Int) :
    newV Z.flatten T V p = newV (Z.getD (begL Z T - 1) []) T V p ∧ ∀ v, insL Z.flatten T v = (Z.take (begL Z T - 1)).flatten ++ insL (Z.getD (begL Z T - 1) []) T v ++ (Z.drop (begL Z T - 1 + 1)).flatten := by
  obtain ⟨h1, h2, h3⟩ := put_place hr hn h0 T
  have hy : Rising (Z.getD (begL Z T - 1) []) := flat_rising hr (by rw [chunk_get h1]; exact List.getElem_mem h1)
  have e : Z.flatten = (Z.take (begL Z T - 1)).flatten ++ Z.getD (begL Z T - 1) [] ++ (Z.drop (begL Z T - 1 + 1)).flatten := by
    conv => lhs; rw [split_at h1]
    simp
  exact ⟨by rw [e]; exact newV_parts V p hy h2 h3, fun v => by rw [e]; exact ins_parts v hy h2 h3⟩
theorem map_drop_len (Y : List (List (Int × Int))) (a b : Int) : Y.flatten.length = (Y.map fun z => dropL z a b).flatten.length + (Y.map fun z => dropN z a b).sum := by
  induction Y with
  | nil => simp
  | cons y Y ih =>
    have := dropN_len y a b
    simp only [List.flatten_cons, List.map_cons, List.length_append, List.sum_cons]
    omega
theorem dropN_zero {z : List (Int × Int)} {a b : Int} (h : dropN z a b = 0) : dropL z a b = z := by
  unfold dropN at h
  unfold dropL
  rw [if_pos (by omega)]
theorem del_sum {Z : List (List (Int × Int))} (hr : Rising Z.flatten) (hn : ∀ z ∈ Z, z ≠ []) (a b : Int) : dropN Z.flatten a b = ((midL Z (winA Z a b) (winB Z a b)).map fun z => dropN z a b).sum := by
  have h1 := dropN_len Z.flatten a b
  have h2 := map_drop_len (midL Z (winA Z a b) (winB Z a b)) a b
  have h3 := congrArg List.length (win_kept hr hn a b)
  have h4 := congrArg (fun l => (List.flatten l).length) (three Z (winA Z a b) (winB Z a b) (win_le hr hn a b).1)
  simp only [List.length_append, List.flatten_append] at h3 h4
  omega
structure Ser where
  ret : Int
  pol : Int
  mx : Int
  line : Int
  z : List (Int × Int)
def lineS (s : Ser) : Int := if 0 < s.ret then max s.line (s.mx - s.ret) else s.line
def trimS (s : Ser) : Ser := ⟨s.ret, s.pol, s.mx, lineS s, dropL s.z 0 (lineS s - 1)⟩
def polS (s : Ser) (p : Int) : Int := if p = 0 then s.pol else p
def badS (s : Ser) (T p : Int) : Prop := T < 0 ∨ 1099511627776 ≤ T ∨ ¬ (1 ≤ polS s p ∧ polS s p ≤ 6)
instance (s : Ser) (T p : Int) : Decidable (badS s T p) := inferInstanceAs (Decidable (_ ∨ _))
def addE (s : Ser) (T V p : Int) : Int := if badS s T p then 1 else if T < s.line then 7 else (newV s.z T V (polS s p)).2
def addS5 (s : Ser) (T V p : Int) : Ser := if addE s T V p = 0 then trimS ⟨s.ret, s.pol, max s.mx T, s.line, insL s.z T (newV s.z T V (polS s p)).1⟩ else s
def delS (s : Ser) (a b : Int) : Ser := ⟨s.ret, s.pol, s.mx, s.line, dropL s.z a b⟩
def keepB (ret p : Int) : Prop := (0 ≤ ret ∧ ret ≤ 1099511627776) ∧ 1 ≤ p ∧ p ≤ 6
instance (ret p : Int) : Decidable (keepB ret p) := inferInstanceAs (Decidable (_ ∧ _))
def altE (ret p : Int) : Int := if keepB ret p then 0 else 1
def altS (s : Ser) (ret p : Int) : Ser := if keepB ret p then trimS ⟨ret, p, s.mx, s.line, s.z⟩ else s
structure Std (s : Ser) : Prop where
  r0 : 0 ≤ s.ret
  r1 : s.ret ≤ 1099511627776
  p0 : 1 ≤ s.pol
  p1 : s.pol ≤ 6
  m0 : -1 ≤ s.mx
  m1 : s.mx < 1099511627776
  l0 : 0 ≤ s.line
  l1 : s.line ≤ max 0 s.mx
  lr : s.ret = 0 ∨ s.mx - s.ret ≤ s.line
  rise : Rising s.z
  all : All64 s.z
  z0 : ∀ x ∈ s.z, s.line ≤ x.1
  z1 : ∀ x ∈ s.z, x.1 ≤ s.mx
theorem Std.trim {s : Ser} (r0 : 0 ≤ s.ret) (r1 : s.ret ≤ 1099511627776) (p0 : 1 ≤ s.pol) (p1 : s.pol ≤ 6) (m0 : -1 ≤ s.mx) (m1 : s.mx < 1099511627776) (l0 : 0 ≤ s.line) (l1 : s.line ≤ max 0 s.mx) (rise : Rising s.z) (all : All64 s.z) (z0 : ∀ x ∈ s.z, 0 ≤ x.1) (z1 : ∀ x ∈ s.z, x.1 ≤ s.mx) : Std (trimS s) := by
  have hl : lineS s = s.line ∨ lineS s = s.mx - s.ret := by unfold lineS; split <;> omega
  have hl2 : s.line ≤ lineS s := by unfold lineS; split <;> omega
  have hl3 : s.ret = 0 ∨ s.mx - s.ret ≤ lineS s := by unfold lineS; split <;> omega
  have hl4 : lineS s ≤ max 0 s.mx := by rcases hl with h | h <;> omega
  refine ⟨r0, r1, p0, p1, m0, m1, by show 0 ≤ lineS s; omega, hl4, hl3, dropL_rising rise _ _, dropL_all64 all _ _, ?_, ?_⟩
  · intro x hx
    have h := (dropL_mem rise _ _ x).1 hx
    have h0 := z0 x h.1
    show lineS s ≤ x.1
    omega
  · intro x hx
    exact z1 x ((dropL_mem rise _ _ x).1 hx).1
theorem Std.pos {s : Ser} (h : Std s) : ∀ x ∈ s.z, 0 ≤ x.1 := fun x hx => by have := h.z0 x hx; have := h.l0; omega
theorem Std.del {s : Ser} (h : Std s) (a b : Int) : Std (delS s a b) :=
  ⟨h.r0, h.r1, h.p0, h.p1, h.m0, h.m1, h.l0, h.l1, h.lr, dropL_rising h.rise _ _, dropL_all64 h.all _ _, fun x hx => h.z0 x ((dropL_mem h.rise _ _ x).1 hx).1, fun x hx => h.z1 x ((dropL_mem h.rise _ _ x).1 hx).1⟩
theorem Std.alt {s : Ser} (h : Std s) (ret p : Int) : Std (altS s ret p) := by
  unfold altS
  split
  · rename_i hk
    obtain ⟨⟨k1, k2⟩, k3, k4⟩ := hk
    exact Std.trim k1 k2 k3 k4 h.m0 h.m1 h.l0 h.l1 h.rise h.all h.pos h.z1
  · exact h
theorem Std.add {s : Ser} (h : Std s) (T V p : Int) (hV : in64 V) : Std (addS5 s T V p) := by
  unfold addS5
  split
  · rename_i he
    unfold addE at he
    split at he
    · omega
    · rename_i hb
      unfold badS at hb
      have hm0 := h.m0
      have hm1 := h.m1
      have hl1 := h.l1
      have hv : in64 (newV s.z T V (polS s p)).1 := newV_in h.all hV
      refine Std.trim h.r0 h.r1 h.p0 h.p1 (by show -1 ≤ max s.mx T; omega) (by show max s.mx T < _; omega) h.l0 (by show s.line ≤ max 0 (max s.mx T); omega) (insL_rising h.rise _ _) (insL_all64 h.all ⟨by omega, by omega⟩ hv) ?_ ?_
      · intro x hx
        rcases (insL_mem h.rise _ _ x).1 hx with ⟨hx, _⟩ | rfl
        · exact h.pos x hx
        · show 0 ≤ T; omega
      · intro x hx
        show x.1 ≤ max s.mx T
        rcases (insL_mem h.rise _ _ x).1 hx with ⟨hx, _⟩ | rfl
        · have := h.z1 x hx; omega
        · show T ≤ max s.mx T; omega
  · exact h
theorem trim_len (s : Ser) : (trimS s).z.length ≤ s.z.length := by
  show (dropL s.z 0 (lineS s - 1)).length ≤ _
  have := dropN_len s.z 0 (lineS s - 1); omega
theorem del_len (s : Ser) (a b : Int) : (delS s a b).z.length ≤ s.z.length := by
  show (dropL s.z a b).length ≤ _
  have := dropN_len s.z a b; omega
theorem alt_len (s : Ser) (ret p : Int) : (altS s ret p).z.length ≤ s.z.length := by
  unfold altS; split
  · exact trim_len ⟨ret, p, s.mx, s.line, s.z⟩
  · exact Nat.le_refl _
theorem add_len {s : Ser} (h : Rising s.z) (T V p : Int) : (addS5 s T V p).z.length ≤ s.z.length + 1 := by
  unfold addS5; split
  · refine Nat.le_trans (trim_len _) ?_
    show (insL s.z T (newV s.z T V (polS s p)).1).length ≤ _
    rw [insL_length _ _ _ h]; omega
  · omega
end Go.Proofs.YtmifpfojhlmbkaaGreat
