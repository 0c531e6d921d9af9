/-
  How a series lies in memory. Contract of series.replace: other chunks in the place of some.
-/
import Derived.Test.YtpbhdlhbcfkhfaaGreatSArr
import Derived.Test.YtpbhdlhbcfkhfaaGreatSCat
import Derived.Test.YtpbhdlhbcfkhfaaGreatSFit
import Derived.Deep.DeepCutAuto
import Derived.StillTailTactics
namespace Go.Proofs.YtpbhdlhbcfkhfaaGreat
open Go.RowKit
set_option linter.unusedVariables false
set_option linter.unusedSimpArgs false

/-- A series' block. -/
def SCell (w : World) (b : Nat) (sz ret pol mx line : Int) (v : Value) : Prop := w.heap[b]? = some (.cells #[.int .i64 sz, .int .i64 ret, .int .i64 pol, .int .i64 mx, .int .i64 line, v] 52 (0, 0))
/-- A series in block b with the chunks L. -/
def SMem (w : World) (b : Nat) (sz ret pol mx line : Int) (L : List (Nat × List (Int × Int))) : Prop :=
  ∃ a cap, SCell w b sz ret pol mx line (.slice a L.length cap) ∧ Ptrs w a L.length cap (bl L) ∧ Chs w sz L
theorem SCell.lt {w : World} {b : Nat} {sz ret pol mx line : Int} {v : Value} (h : SCell w b sz ret pol mx line v) : b < w.heap.size := heap_lt h
theorem SCell.noSamp {w : World} {b : Nat} {sz ret pol mx line : Int} {v : Value} (h : SCell w b sz ret pol mx line v) : NoSamp w b := noSamp_of h (by decide)
theorem SCell.noPtr {w : World} {b : Nat} {sz ret pol mx line : Int} {v : Value} (h : SCell w b sz ret pol mx line v) : NoPtr w b := noPtr_of h (by decide)
theorem SCell.keep {w w' : World} {b : Nat} {sz ret pol mx line : Int} {v : Value} {row : Option Nat} (h : SCell w b sz ret pol mx line v) (g : w.grownBy w' row) (hr : row ≠ some b) : SCell w' b sz ret pol mx line v := (g.block b h.lt (Ne.symm hr)).trans h
theorem SMem.keepN {w w' : World} {b : Nat} {sz ret pol mx line : Int} {L : List (Nat × List (Int × Int))} (h : SMem w b sz ret pol mx line L) (g : w.grownBy w' none) : SMem w' b sz ret pol mx line L := by
  obtain ⟨a, cap, hc, hp, hk⟩ := h
  exact ⟨a, cap, hc.keep g (by simp), hp.keepN g, hk.keepN g⟩
theorem SMem.keepB {w w' : World} {b : Nat} {sz ret pol mx line : Int} {L : List (Nat × List (Int × Int))} (h : SMem w b sz ret pol mx line L) (g : Below w.heap.size w w') : SMem w' b sz ret pol mx line L := h.keepN (gb_below g)
theorem SMem.lt {w : World} {b : Nat} {sz ret pol mx line : Int} {L : List (Nat × List (Int × Int))} (h : SMem w b sz ret pol mx line L) : b < w.heap.size := by obtain ⟨a, cap, hc, _⟩ := h; exact hc.lt

theorem lay_near (A B C : List (Nat × List (Int × Int))) : midL (A ++ B ++ C) (A.length - 1) A.length = A.drop (A.length - 1) := by
  unfold midL
  rw [List.append_assoc, List.take_left']
  rfl
theorem lay_next (A B C : List (Nat × List (Int × Int))) : midL (A ++ B ++ C) (A.length + B.length) (min (A ++ B ++ C).length (A.length + B.length + 1)) = C.take 1 := by
  unfold midL
  rw [List.drop_take, List.drop_left' (by rw [List.length_append])]
  cases C with
  | nil => simp
  | cons c C => rw [show min (A ++ B ++ c :: C).length (A.length + B.length + 1) - (A.length + B.length) = 1 from by simp; omega]
theorem lay_ahead (A B C : List (Nat × List (Int × Int))) : (A ++ B ++ C).take (A.length - 1) = A.take (A.length - 1) := by
  rw [List.append_assoc, List.take_append_of_le_length (by omega)]
theorem lay_behind (A B C : List (Nat × List (Int × Int))) : (A ++ B ++ C).drop (min (A ++ B ++ C).length (A.length + B.length + 1)) = C.drop 1 := by
  cases C with
  | nil => simp
  | cons c C =>
    rw [show min (A ++ B ++ c :: C).length (A.length + B.length + 1) = (A ++ B).length + 1 from by simp; omega, ← List.drop_drop, List.drop_left]
theorem zs_take (L : List (Nat × List (Int × Int))) (k : Nat) : zs (L.take k) = (zs L).take k := by simp [zs, List.map_take]
theorem zs_drop (L : List (Nat × List (Int × Int))) (k : Nat) : zs (L.drop k) = (zs L).drop k := by simp [zs, List.map_drop]
theorem bl_take (L : List (Nat × List (Int × Int))) (k : Nat) : bl (L.take k) = (bl L).take k := by simp [bl, List.map_take]
theorem bl_drop (L : List (Nat × List (Int × Int))) (k : Nat) : bl (L.drop k) = (bl L).drop k := by simp [bl, List.map_drop]
theorem zs_near (A P C : List (Nat × List (Int × Int))) : zs (A.drop (A.length - 1) ++ P ++ C.take 1) = nearL (zs A) (zs P) (zs C) := by
  unfold nearL; rw [zs_app, zs_app, zs_drop, zs_take, zs_len]
theorem zs_repl (A M C : List (Nat × List (Int × Int))) : zs (A.take (A.length - 1) ++ M ++ C.drop 1) = (zs A).take ((zs A).length - 1) ++ zs M ++ (zs C).drop 1 := by
  rw [zs_app, zs_app, zs_take, zs_drop, zs_len]
theorem near_whole (A P C : List (List (Int × Int))) : A.flatten ++ P.flatten ++ C.flatten = (A.take (A.length - 1)).flatten ++ (nearL A P C).flatten ++ (C.drop 1).flatten := by
  have e1 : (A.take (A.length - 1)).flatten ++ (A.drop (A.length - 1)).flatten = A.flatten := by rw [← List.flatten_append, List.take_append_drop]
  have e2 : (C.take 1).flatten ++ (C.drop 1).flatten = C.flatten := by rw [← List.flatten_append, List.take_append_drop]
  unfold nearL
  rw [List.flatten_append, List.flatten_append, ← e1, ← e2]
  simp only [List.append_assoc]
/-- Three rows of pointers in a row. -/
theorem parts3 {w : World} {a1 a2 a3 : Option Addr} {n1 n2 n3 c1 c2 c3 : Nat} {x y z : List Nat} (h1 : Ptrs w a1 n1 c1 x) (h2 : Ptrs w a2 n2 c2 y) (h3 : Ptrs w a3 n3 c3 z) :
    PParts (w.alloc (.cells #[.slice a1 n1 c1, .slice a2 n2 c2, .slice a3 n3 c3] 50)) w.heap.size [x, y, z] (fun i => if i = 0 then a1 else if i = 1 then a2 else a3) (fun i => if i = 0 then c1 else if i = 1 then c2 else c3) := by
  have hg := World.grownBy_alloc w (.cells #[.slice a1 n1 c1, .slice a2 n2 c2, .slice a3 n3 c3] 50) none
  have hc : ∀ i, (w.alloc (.cells #[.slice a1 n1 c1, .slice a2 n2 c2, .slice a3 n3 c3] 50)).cell? ⟨w.heap.size, i, none⟩ = (#[Value.slice a1 n1 c1, .slice a2 n2 c2, .slice a3 n3 c3])[i]? := fun i => cell_of (heap_new w _)
  have l1 := h1.len
  have l2 := h2.len
  have l3 := h3.len
  subst l1 l2 l3
  intro i hi
  have hi' : i < 3 := hi
  match i, hi' with
  | 0, _ => exact ⟨by rw [hc 0]; rfl, h1.keepN hg⟩
  | 1, _ => exact ⟨by rw [hc 1]; rfl, h2.keepN hg⟩
  | 2, _ => exact ⟨by rw [hc 2]; rfl, h3.keepN hg⟩
theorem arr_len (sz : Int) (l : List (List (Int × Int))) : (arrL sz l).length ≤ l.length := by
  refine snoc_ind (P := fun l => (arrL sz l).length ≤ l.length) (by simp [arrL]) ?_ l
  intro l c ih
  rw [arrL_snoc, List.length_append, List.length_singleton]
  unfold arrS
  split
  · omega
  · split
    · rename_i h; simp; omega
    · simp; omega
theorem SMem.set {w : World} {b : Nat} {sz ret pol mx line : Int} {v : Value} {L : List (Nat × List (Int × Int))} {a : Option Addr} {n cap : Nat} (h : SCell w b sz ret pol mx line v) (hn : L.length = n) (hp : Ptrs w a n cap (bl L)) (hk : Chs w sz L) :
    SMem (w.setCell ⟨b, 5, none⟩ (.slice a n cap)) b sz ret pol mx line L := by
  subst hn
  have g : w.grownBy (w.setCell ⟨b, 5, none⟩ (.slice a L.length cap)) (some b) := gb_set (gb_refl _ _) _ _
  refine ⟨a, cap, ?_, hp.keep g (fun r hr => by cases hr; exact h.noPtr), ?_⟩
  · have := heap_set (o := 5) (v := .slice a L.length cap) h
    exact this
  · intro x hx
    have hx' := hk x hx
    refine CAt.keep hx' g (fun e => ?_) h.noSamp
    obtain ⟨a', cap', hc', _⟩ := hx'
    rw [e, show w.heap[b]? = _ from h] at hc'
    simp at hc'
def ReplP (b : Nat) (sz ret pol mx line : Int) (Z : List (List (Int × Int))) (w : World) (e : Ending) (w' : World) : Prop :=
  (∃ v, e = .returned v) ∧ (∃ L', SMem w' b sz ret pol mx line L' ∧ zs L' = Z) ∧ w.grownBy w' (some b)

set_option maxRecDepth 100000 in
set_option maxHeartbeats 2000000 in
theorem replace_any (b : Nat) (sz ret pol mx line : Int) (A B C P : List (Nat × List (Int × Int))) (ap : Option Addr) (cp : Nat) (w : World) (h : SMem w b sz ret pol mx line (A ++ B ++ C)) (hp : Ptrs w ap P.length cp (bl P)) (hcp : Chs w sz P) (hs : 128 ≤ sz) (hs2 : sz ≤ 4096)
    (hr : Rising ((zs A).flatten ++ (zs P).flatten ++ (zs C).flatten)) (hn : ((zs A).flatten ++ (zs P).flatten ++ (zs C).flatten).length ≤ 262144) (hl : (A ++ B ++ C).length ≤ 262144) (hlp : P.length ≤ 200000) :
    Calls Tryz.prog 34 #[.pointer (some ⟨b, 0, none⟩), .int .i64 (A.length : Int), .int .i64 ((A.length + B.length : Nat) : Int), .slice ap P.length cp] w (ReplP b sz ret pol mx line (replL sz (zs A) (zs P) (zs C)) w) := by
  obtain ⟨a, cap, hc, hpt, hk⟩ := h
  have HN1 := Lib.hid (lay_near A B C)
  have HN2 := Lib.hid (lay_next A B C)
  have HN3 := Lib.hid (lay_ahead A B C)
  have HN4 := Lib.hid (lay_behind A B C)
  have HZN := Lib.hid (zs_near A P C)
  have HZR := Lib.hid (fun M => zs_repl A M C)
  have HCL : C.length = (A ++ B ++ C).length - (A.length + B.length) := by simp; omega
  have HRN := Lib.hid (show Rising (nearL (zs A) (zs P) (zs C)).flatten from by rw [near_whole] at hr; exact rising_right (rising_left hr))
  have HLN := Lib.hid (show (nearL (zs A) (zs P) (zs C)).flatten.length ≤ 262144 from by rw [near_whole, List.length_append, List.length_append] at hn; omega)
  have HRE := Lib.hid (show replL sz (zs A) (zs P) (zs C) = (zs A).take ((zs A).length - 1) ++ arrL sz (nearL (zs A) (zs P) (zs C)) ++ (zs C).drop 1 from rfl)
  have hAl : A.length ≤ (A ++ B ++ C).length := by rw [List.length_append, List.length_append]; omega
  have hBl : A.length + B.length ≤ (A ++ B ++ C).length := by rw [List.length_append, List.length_append]; omega
  have HSU1 := Lib.hid (show ∀ x ∈ A.drop (A.length - 1) ++ C.take 1, x ∈ A ++ B ++ C from fun x hx => by
    rcases List.mem_append.1 hx with h | h
    · have := List.mem_of_mem_drop h; simp [this]
    · have := List.mem_of_mem_take h; simp [this])
  have HSU2 := Lib.hid (show ∀ x ∈ A.take (A.length - 1) ++ C.drop 1, x ∈ A ++ B ++ C from fun x hx => by
    rcases List.mem_append.1 hx with h | h
    · have := List.mem_of_mem_take h; simp [this]
    · have := List.mem_of_mem_drop h; simp [this])
  have HNL : (A.drop (A.length - 1) ++ P ++ C.take 1).length ≤ P.length + 2 := by simp; omega
  have HNC : (A.drop (A.length - 1)).length + (C.take 1).length ≤ 2 := by simp; omega
  generalize hL : A ++ B ++ C = L at *
  generalize hM : A.length - 1 = lf at *
  generalize hNN : L.length = N at *
  generalize hm : A.length + B.length = m at *
  generalize hf : A.length = f at *
  generalize hR : min N (m + 1) = rt at *
  generalize hnp : P.length = np at *
  have q1 : lf ≤ f := by omega
  have q2 : m ≤ rt := by omega
  have q3 : rt ≤ N := by omega
  have q4 : f ≤ m := by omega
  obtain ⟨a1, S1, P1⟩ := ptrs_lh hpt lf f q1 (by omega)
  obtain ⟨a2, S2, P2⟩ := ptrs_lh hpt m rt q2 q3
  obtain ⟨a3, S3, P3⟩ := ptrs_h hpt lf (by omega)
  obtain ⟨a4, S4, P4⟩ := ptrs_l hpt rt q3
  rw [← bl_mid, HN1.out] at P1
  rw [← bl_mid, HN2.out] at P2
  rw [← bl_take, HN3.out] at P3
  rw [← bl_drop, HN4.out] at P4
  have c5 : ∀ W : World, Below w.heap.size w W → W.cell? ⟨b, 5, none⟩ = some (.slice a N cap) := fun W hW => by rw [hW.cell hc.lt, cell_of hc]; rfl
  have hblt := hc.lt
  have HC5 := Lib.hid c5
  have HC := Lib.hid hc
  have HK := Lib.hid hk
  have HP := Lib.hid hp
  have HCP := Lib.hid hcp
  have HP1 := Lib.hid P1
  have HP2 := Lib.hid P2
  have HP3 := Lib.hid P3
  have HP4 := Lib.hid P4
  have HMF := Lib.hid hM
  have HR := Lib.hid hR
  have HL0 := Lib.hid hL
  have HNP := Lib.hid hnp
  have HLL := Lib.hid (show L.length ≤ 262144 from by rw [hNN]; exact hl)
  clear c5 P1 P2 P3 P4 hM hR hc hk hp hcp hpt hL hNN hm hf hnp hr hn HCL HNL
  have cw := HC5.out w (Below.refl _ _)
  go_enter Tryz.func34, Tryz.ntmps34
  go_upto_region 0 with fail
  go_cut [8, 9] (fun s8 s9 wx => s8 = .int .i64 (lf : Int) ∧ s9 = .int .i64 (rt : Int) ∧ Below w.heap.size w wx)
  case first =>
    have hx := HMF.out
    have hy := HR.out
    have HX := Lib.hid hx
    have HY := Lib.hid hy
    clear hx hy HMF HR
    have hd1 : ((f : Int) - 1 ≤ 0) ∨ ¬ ((f : Int) - 1 ≤ 0) := by omega
    have hd3 : ((N : Int) ≤ (m : Int) + 1) ∨ ¬ ((N : Int) ≤ (m : Int) + 1) := by omega
    rcases hd1 with hd1 | hd1 <;> rcases hd3 with hd3 | hd3
    all_goals
      go_quiet (fail)
      go_wp2_with fail
      go_meet
      have hx := HX.out
      have hy := HY.out
      refine ⟨?_, ?_, drew_below ⟨_, rfl⟩⟩
      · congr 1; omega
      · congr 1; omega
  case rest =>
    obtain ⟨rfl, rfl, B1⟩ := hcut
    generalize wc = W1 at *
    have c1 := HC5.out W1 B1
    go_wp2_with fail
    refine wp_region_still_tail 15 (by kernel_rfl) (by kernel_rfl) ?_
    simp only [List.take_succ_cons, List.take_zero, List.drop_succ_cons, List.drop_zero]
    change wpStill _ _ W1.drew (fun a' => wpList _ _ _ _ a' W1.drew) _ _
    have B2 := B1.drew
    have c2 := HC5.out W1.drew B2
    generalize W1.drew = W2 at *
    repeat still_step
    refine wpStill_nil ?_
    have s2 := B2.size
    have HQ := Lib.hid (parts3 (HP1.out.keepB B2) (HP.out.keepB B2) (HP2.out.keepB B2))
    have B3 := B2.alloc s2 (.cells #[.slice a1 (f - lf) (cap - lf), .slice ap np cp, .slice a2 (rt - m) (cap - m)] 50)
    have hsz3 : W2.heap.size < (W2.alloc (.cells #[.slice a1 (f - lf) (cap - lf), .slice ap np cp, .slice a2 (rt - m) (cap - m)] 50)).heap.size := by simp
    clear c1 B1
    go_wp2_with fail
    generalize W2.alloc (.cells #[.slice a1 (f - lf) (cap - lf), .slice ap np cp, .slice a2 (rt - m) (cap - m)] 50) = W3 at *
    have HFL := Lib.hid (show [bl (A.drop lf), bl P, bl (C.take 1)].flatten = bl (A.drop lf ++ P ++ C.take 1) from by rw [bl_app, bl_app]; simp)
    have hln : (A.drop lf ++ P ++ C.take 1).length ≤ 200002 := by rw [List.length_append, List.length_append, HNP.out]; omega
    refine (concat_any W2.heap.size _ _ _ 3 W3 rfl HQ.out hsz3 (by rw [HFL.out, bl_len]; omega) (by omega)).mono ?_
    rintro e W4 ⟨v4, rfl, r4, b4⟩
    rw [HFL.out] at r4
    have B4 := B3.trans (b4.mono B3.size)
    clear B3 b4 HQ hsz3 c2 B2 s2
    have HKN := Lib.hid (show Chs W4 sz (A.drop lf ++ P ++ C.take 1) from by
      have h1 := (HK.out.keepB B4).sub HSU1.out
      intro x hx
      rcases List.mem_append.1 hx with h | h
      · rcases List.mem_append.1 h with h | h
        · exact h1 x (by simp [h])
        · exact HCP.out.keepB B4 x h
      · exact h1 x (by simp [h]))
    obtain ⟨a5, cap5, rfl, P5⟩ := r4.shape
    rw [bl_len] at P5 ⊢
    have HNR := Lib.hid (show Rising (zs (A.drop lf ++ P ++ C.take 1)).flatten from by rw [HZN.out]; exact HRN.out)
    have HNN := Lib.hid (show (zs (A.drop lf ++ P ++ C.take 1)).flatten.length ≤ 262144 from by rw [HZN.out]; exact HLN.out)
    generalize hNear : A.drop lf ++ P ++ C.take 1 = NR at *
    obtain ⟨nr, hnr⟩ : ∃ nr, NR.length = nr := ⟨_, rfl⟩
    rw [hnr] at hln P5 ⊢
    have HNRL := Lib.hid hnr
    have HP5 := Lib.hid P5
    clear r4 P5 hnr hNear
    have c4 := HC5.out W4 B4
    go_wp2_with fail
    have HPD : Hid (Ptrs W4.drew a5 nr cap5 (bl NR)) := HP5
    have HKD : Hid (Chs W4.drew sz NR) := HKN
    have B4D : Below w.heap.size w W4.drew := B4.drew
    have hlA : A.length ≤ 262144 := by
      have := congrArg List.length HL0.out
      rw [List.length_append, List.length_append] at this
      have := HLL.out
      omega
    have hlC : C.length ≤ 262144 := by
      have := congrArg List.length HL0.out
      rw [List.length_append, List.length_append] at this
      have := HLL.out
      omega
    have hnA : (zs NR).length ≤ 200002 := by rw [zs_len, HNRL.out]; exact hln
    go_region_with
      (first
        | (go_at_call 62
           (with_reducible refine (arranged_any a5 nr cap5 NR sz _ HPD.out HKD.out hs hs2 (by have := HNN.out; omega) HNR.out (by omega)).mono ?_)
           rintro e W6 ⟨v6, M, rfl, r6, ch6, hz6, b6⟩
           have B6 := Lib.hid (B4D.trans (b6.mono B4D.size))
           have c6 := HC5.out W6 B6.out
           have HZ6 := Lib.hid hz6
           have HC6 := Lib.hid ch6
           obtain ⟨a6, cap6, rfl, P6⟩ := r6.shape
           rw [bl_len] at P6 ⊢
           have HQ6 := Lib.hid (parts3 (HP3.out.keepB B6.out) P6 (HP4.out.keepB B6.out))
           have HM6 := Lib.hid (show M.length ≤ 200002 from by rw [← zs_len, hz6]; exact Nat.le_trans (arr_len sz _) hnA)
           have HS6 := Lib.hid (show [bl (A.take lf), bl M, bl (C.drop 1)].flatten.length ≤ 1048576 from by
             have h6 := HM6.out
             have h1 : (A.take lf).length ≤ A.length := by rw [List.length_take]; omega
             have h2 : (C.drop 1).length ≤ C.length := by rw [List.length_drop]; omega
             simp only [List.flatten_cons, List.flatten_nil, List.length_append, bl_len, List.length_nil]; omega)
           have hb6 : b < W6.heap.size := Nat.lt_of_lt_of_le hblt B6.out.size
           have HFL7 := Lib.hid (show [bl (A.take lf), bl M, bl (C.drop 1)].flatten = bl (A.take lf ++ M ++ C.drop 1) from by rw [bl_app, bl_app]; simp)
           generalize hm6 : M.length = m6 at *
           have HM := Lib.hid hm6
           clear hm6
           clear r6 ch6 hz6 P6)
        | (go_at_call 61
           (with_reducible refine (concat_any W6.heap.size _ _ _ 3 _ rfl HQ6.out (by simp) HS6.out (by omega)).mono ?_)
           rintro e W7 ⟨v7, rfl, r7, b7⟩
           have b67 : Below W6.heap.size W6 W7 := ((Below.refl W6.heap.size W6).alloc (Nat.le_refl _) _).trans (b7.mono (by simp))
           have B7 := Lib.hid (B6.out.trans (b67.mono B6.out.size))
           have H7 : Hid (W7.heap[b]? = _) := Lib.hid ((B7.out.block b hblt).trans HC.out)
           have c7 := HC5.out W7 B7.out
           have f7 := frozen_of (o := 5) H7.out
           rw [HFL7.out] at r7
           obtain ⟨a7, cap7, rfl, P7⟩ := r7.shape
           rw [bl_len] at P7 ⊢
           generalize hn7 : (A.take lf ++ M ++ C.drop 1).length = n7 at *
           have HN7 := Lib.hid hn7
           clear hn7
           have HP7 := Lib.hid P7
           have HC7 := Lib.hid (HC6.out.keepB b67)
           clear b67 P7 r7 b7))
    all_goals
      have HZ7 := Lib.hid (show zs (A.take lf ++ M ++ C.drop 1) = replL sz (zs A) (zs P) (zs C) from by rw [HZR.out, HZ6.out, HZN.out]; exact HRE.out.symm)
      have HK7 := Lib.hid (show Chs W7 sz (A.take lf ++ M ++ C.drop 1) from by
        have h1 := (HK.out.keepB B7.out).sub HSU2.out
        intro x hx
        rcases List.mem_append.1 hx with h | h
        · rcases List.mem_append.1 h with h | h
          · exact h1 x (by simp [h])
          · exact HC7.out x h
        · exact h1 x (List.mem_append.2 (.inr h)))
      go_end0
      exact ⟨⟨_, rfl⟩, ⟨_, SMem.set H7.out HN7.out HP7.out HK7.out, HZ7.out⟩, gb_set (gb_below B7.out) _ _⟩

end Go.Proofs.YtpbhdlhbcfkhfaaGreat
