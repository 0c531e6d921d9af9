/-
  Contracts.
-/
import Derived.Test.YtmifpfojhlmbkaaGreatJ0
import Derived.Test.YtmifpfojhlmbkaaGreatJ32
import Derived.Test.YtmifpfojhlmbkaaGreatJ34
import Derived.Test.YtmifpfojhlmbkaaGreatJ36
import Derived.Lib.OwnBridge
import Derived.Sort.OwnSorted
namespace Go.Proofs.YtmifpfojhlmbkaaGreat
set_option maxRecDepth 100000
set_option maxHeartbeats 16000000
open Go.RowKit Go.Sort
set_option linter.unusedVariables false
set_option linter.unusedSimpArgs false
theorem le_ne_lt {x y : Tx} (h : x ≤ y) (k : x ≠ y) : x < y := by
  rcases lt_3 x y with h1 | h1 | h1
  · exact h1
  · exact absurd h1 k
  · exact absurd h1 (List.not_lt.2 h)
theorem compact_is {z : List Tx} (h : z.Pairwise (· ≤ ·)) : Lib.compact z = canon z := by
  have hd : ∀ i, i < z.length → (z.toArray)[i]! = z.getD i [] := fun i hi => by
    rw [getD_get hi]; simp [getElem!_pos, hi]
  refine canon_eq ?_ (fun x => ?_)
  · unfold Lib.compact Lib.compactUpTo SS
    rw [List.pairwise_map]
    refine List.Pairwise.imp_of_mem (R := (· < ·)) (fun {i j} hi hj hij => ?_) (List.Pairwise.filter _ List.pairwise_lt_range)
    obtain ⟨hi1, _⟩ := List.mem_filter.1 hi
    obtain ⟨hj1, hj2⟩ := List.mem_filter.1 hj
    have hi3 := List.mem_range.1 hi1
    have hj3 := List.mem_range.1 hj1
    have hle : ∀ a b, a < b → b < z.length → z.getD a [] ≤ z.getD b [] := fun a b hab hb => by
      rw [getD_get (by omega), getD_get hb]; exact List.pairwise_iff_getElem.1 h a b (by omega) hb hab
    have hk : z.getD j [] ≠ z.getD (j - 1) [] := by
      simp only [Lib.keeps] at hj2
      rw [hd j hj3, hd (j - 1) (by omega)] at hj2
      intro e
      rw [e] at hj2
      simp at hj2
      omega
    rw [hd i hi3, hd j hj3]
    have h1 : z.getD (j - 1) [] < z.getD j [] := le_ne_lt (hle (j - 1) j (by omega) hj3) (fun e => hk e.symm)
    by_cases e : i = j - 1
    · rw [e]; exact h1
    · exact List.lt_of_le_of_lt (hle i (j - 1) (by omega) (by omega)) h1
  · unfold Lib.compact Lib.compactUpTo
    rw [List.mem_map]
    constructor
    · rintro ⟨i, hi, rfl⟩
      have hi3 := List.mem_range.1 (List.mem_filter.1 hi).1
      rw [hd i hi3, getD_get hi3]
      exact List.getElem_mem hi3
    · intro hx
      have hex : ∃ i, i < z.length ∧ z.getD i [] = x := by
        obtain ⟨i, hi, e⟩ := List.getElem_of_mem hx
        exact ⟨i, hi, by rw [getD_get hi]; exact e⟩
      have key : ∀ n, (∃ i, i ≤ n ∧ i < z.length ∧ z.getD i [] = x) → ∃ i, i < z.length ∧ z.getD i [] = x ∧ ∀ j, j < i → z.getD j [] ≠ x := by
        intro n
        induction n with
        | zero =>
          rintro ⟨i, h1, h2, h3⟩
          exact ⟨i, h2, h3, fun j hj => by omega⟩
        | succ n ih =>
          intro hh
          by_cases hn : ∃ i, i ≤ n ∧ i < z.length ∧ z.getD i [] = x
          · exact ih hn
          · obtain ⟨i, h1, h2, h3⟩ := hh
            exact ⟨i, h2, h3, fun j hj e => hn ⟨j, by omega, by omega, e⟩⟩
      obtain ⟨i0, q1, q2⟩ := hex
      obtain ⟨i, h1, h2, h3⟩ := key i0 ⟨i0, Nat.le_refl _, q1, q2⟩
      refine ⟨i, List.mem_filter.2 ⟨List.mem_range.2 h1, ?_⟩, by rw [hd i h1]; exact h2⟩
      simp only [Lib.keeps]
      by_cases hi0 : i = 0
      · simp [hi0]
      · refine decide_eq_true (.inr ?_)
        rw [hd i h1, hd (i - 1) (by omega), h2]
        exact fun e => h3 (i - 1) (by omega) e.symm
theorem sort_compact (l : List Tx) : Lib.compact (l.mergeSort fun x y => decide (x ≤ y)) = canon l := by
  rw [compact_is]
  · exact canon_same (fun x => (List.mergeSort_perm l _).mem_iff)
  · have := List.pairwise_mergeSort (le := fun x y : Tx => decide (x ≤ y)) (fun a b c h1 h2 => by simp only [decide_eq_true_eq] at *; exact List.le_trans h1 h2) (fun a b => by simpa using List.le_total a b) l
    exact this.imp (fun h => by simpa using h)
def MadeE (w : World) (l : List Tx) (e : Ending) (w' : World) : Prop := ∃ v, e = .returned v ∧ TRow w' w.heap.size v l ∧ Below w.heap.size w w'
theorem MadeE.to {w w' : World} {l : List Tx} {e : Ending} (h : MadeE w l e w') : ∃ a c, e = .returned (.slice a l.length c) ∧ TxAt w' a l.length c l ∧ Below w.heap.size w w' := by
  obtain ⟨v, rfl, h1, h2⟩ := h
  obtain ⟨a, c, rfl, h3⟩ := h1.shape
  exact ⟨a, c, rfl, h3, h2⟩
theorem of_left {w w1 : World} {g cap n nn q : Nat} {os : Array Obj} {ss : List Tx} (hown : w1.ownsRow w.heap.size 9 1 (.slice (some ⟨g, 0, none⟩) n cap) n (ss.map encStr)) (hbel : Below w.heap.size w w1) (hbg : w.heap.size ≤ g) (hlen : ss.length = n) :
    MadeE w (canon ss) (.returned (.slice (some ⟨g, 0, none⟩) (Lib.compact (ss.mergeSort fun x y => decide (x ≤ y))).length cap))
      (putRow encStr (Sort.ahead (grow (putRow encStr (Sort.ahead w1 nn) g 0 (ss.mergeSort fun x y => decide (x ≤ y)).toArray) os) q) g 0 (Lib.compact (ss.mergeSort fun x y => decide (x ≤ y)) ++ List.replicate (n - (Lib.compact (ss.mergeSort fun x y => decide (x ≤ y))).length) []).toArray) := by
  have hl2 : (ss.mergeSort fun x y => decide (x ≤ y)).length = ss.length := List.length_mergeSort ss
  have hle := Lib.compact_length_le (ss.mergeSort fun x y => decide (x ≤ y))
  subst hlen
  rcases hown.2 with ⟨h0, _⟩ | ⟨g', cap', cur, hv, hbase, hb, h1, h2, h3, h4⟩
  · cases h0
  cases hv
  have hs := ownsRow_sorted (n := nn) (os := os) (ts := ss.mergeSort fun x y => decide (x ≤ y)) hl2 hbase hb h1 h2 h3
  have hc := Lib.ownsRow_putRow (q := q) (k := (Lib.compact (ss.mergeSort fun x y => decide (x ≤ y))).length) (ys := Lib.compact (ss.mergeSort fun x y => decide (x ≤ y)) ++ List.replicate (ss.length - (Lib.compact (ss.mergeSort fun x y => decide (x ≤ y))).length) []) hs (by simp; omega) (by omega)
  rw [List.take_left] at hc
  refine ⟨_, rfl, ?_, Lib.below_putRow (hbel.grown (grownBy_sorted _) hbel.size (fun j hj => by cases hj; exact hbase)) hbg⟩
  rw [sort_compact] at *
  exact TRow.of hc
theorem of_tail (n : Nat) (arg : Value) (ss : List Tx) (w : World) (hn : n ≤ 1048576)
    (hclone : Calls Tryz.prog 191 #[arg] w fun e w' => ∃ v', e = .returned v' ∧ w'.ownsRow w.heap.size 9 1 v' n (ss.map encStr) ∧ v' ≠ .slice none 0 0 ∧ Below w.heap.size w w') :
    Calls Tryz.prog 115 #[arg] w (MadeE w (canon ss)) := by
  go_enter Tryz.func115, Tryz.ntmps115
  go_wp2_with fail
  refine hclone.mono ?_
  rintro e w1 ⟨v1, rfl, hown, hnn, hbel⟩
  obtain ⟨g, cap, rfl, hbg, hgl, hncap, hcm, hlen, hH⟩ := Lib.holds_of_ownsRow hown hnn
  have hsort := sh_slices_Sort_string g 0 cap ss w1 hH hgl (by omega)
  rw [hlen] at hsort
  have HSo := Lib.hid hsort
  have X := Lib.hid (show w1.ownsRow w.heap.size 9 1 (.slice (some ⟨g, 0, none⟩) n cap) n (ss.map encStr) ∧ Below w.heap.size w w1 ∧ w.heap.size ≤ g ∧ g < w1.heap.size ∧ n ≤ cap ∧ cap ≤ maxLen ∧ ss.length = n ∧ Holds encStr w1 g 0 ss.toArray from ⟨hown, hbel, hbg, hgl, hncap, hcm, hlen, hH⟩)
  clear hown hbel hH hnn hclone hsort hlen
  go_wp2_with fail
  refine HSo.out.mono ?_
  rintro e w2 ⟨rfl, nn, os, rfl⟩
  have hl2 : (ss.mergeSort fun x y => decide (x ≤ y)).length = n := by rw [List.length_mergeSort]; exact X.out.2.2.2.2.2.2.1
  have hH2 : Holds encStr (grow (putRow encStr (Sort.ahead w1 nn) g 0 (ss.mergeSort fun x y => decide (x ≤ y)).toArray) os) g 0 (ss.mergeSort fun x y => decide (x ≤ y)).toArray :=
    holds_grow encStr _ os g 0 _ (by simpa [putRow, mapBlock, Sort.ahead] using X.out.2.2.2.1) (holds_putRow encStr _ g 0 _ _ (holds_ahead encStr w1 nn g 0 _ X.out.2.2.2.2.2.2.2) (by simp))
  have hcomp := sh_slices_Compact_string g 0 cap (ss.mergeSort fun x y => decide (x ≤ y)) _ hH2 (by omega) (by have := X.out.2.2.2.2.1; omega)
  rw [hl2] at hcomp
  have HC := Lib.hid hcomp
  have HE := Lib.hid (fun q => of_left (nn := nn) (q := q) (os := os) X.out.1 X.out.2.1 X.out.2.2.1 X.out.2.2.2.2.2.2.1)
  clear hH2 hcomp hl2
  generalize grow (putRow encStr (Sort.ahead w1 nn) g 0 (ss.mergeSort fun x y => decide (x ≤ y)).toArray) os = W2 at *
  generalize Lib.compact (ss.mergeSort fun x y => decide (x ≤ y)) = R at *
  go_wp2_with fail
  refine HC.out.mono ?_
  rintro e w3 ⟨rfl, q, rfl⟩
  have HF := Lib.hid (HE.out q)
  generalize putRow encStr (Sort.ahead W2 q) g 0 (R ++ List.replicate (n - R.length) []).toArray = W3 at *
  go_wp2
  go_ret
  exact HF.out
theorem of_nil (n c : Nat) (w : World) : Calls Tryz.prog 115 #[.slice none n c] w (MadeE w []) := by
  go_enter Tryz.func115, Tryz.ntmps115
  go_wp2_with fail
  refine (sh_slices_Clone_string_nil n c _).mono ?_
  rintro e w' ⟨rfl, rfl⟩
  go_wp2_with fail
  refine (sh_slices_Sort_string_none none 0 _).mono ?_
  rintro e w' ⟨rfl, rfl⟩
  go_wp2_with fail
  refine (sh_slices_Compact_string_empty none 0 _).mono ?_
  rintro e w' ⟨rfl, rfl⟩
  go_wp2
  go_ret
  exact ⟨_, rfl, TRow.nil _ _, Below.refl _ _⟩
theorem of_any (a : Option Addr) (n c : Nat) (l : List Tx) (w : World) (h : TxAt w a n c l) (hn : n ≤ 1048576) :
    Calls Tryz.prog 115 #[.slice a n c] w (MadeE w (canon l)) := by
  obtain ⟨h1, h2, h3, h4⟩ := h
  cases a with
  | none =>
    have h0 : n = 0 := by
      rcases h4 with e | ⟨b, off, e, _⟩
      · exact e
      · cases e
    subst h0
    have e0 : l = [] := List.eq_nil_of_length_eq_zero h1
    subst e0
    exact of_nil 0 c w
  | some ad =>
    rcases h4 with e | ⟨b, off, e, hlt, hc⟩
    · subst e
      have e0 : l = [] := List.eq_nil_of_length_eq_zero h1
      subst e0
      exact of_tail 0 _ [] w (by omega) (sh_slices_Clone_string_zero ad c w)
    · simp only [Option.some.injEq] at e
      subst e
      refine of_tail n _ l w hn ((sh_slices_Clone_string b off n c (l.map bs) w (by simp; omega) (by omega) (fun j hj => ?_)).mono ?_)
      · simp only [List.length_map] at hj
        rw [hc j (by omega), getD_get hj, List.getD_eq_getElem?_getD, List.getElem?_map, List.getElem?_eq_getElem hj]; rfl
      · rintro e w' ⟨v', he, hown, hnn, hbel⟩
        refine ⟨v', he, ?_, hnn, hbel⟩
        rw [List.take_of_length_le (by simp; omega)] at hown
        rw [show l.map encStr = (l.map bs).map Value.string from by rw [List.map_map]; rfl]
        exact hown
end Go.Proofs.YtmifpfojhlmbkaaGreat
namespace Go.Proofs.YtmifpfojhlmbkaaGreat
set_option maxRecDepth 100000
set_option maxHeartbeats 16000000
open Go.RowKit Go.Shelf
set_option linter.unusedVariables false
set_option linter.unusedSimpArgs false
theorem enters_keysR : ∀ args w, (callFunc 195 args).run Tryz.prog w = .ok (.enter 195 args) w := enters_of Tryz.func195 (by kernel_rfl) rfl
theorem flat_take {S : List Tx} {O : Tx → List Ru} {j : Nat} (h : j < S.length) : (S.take (j + 1)).flatMap O = (S.take j).flatMap O ++ O (S.getD j []) := by
  rw [List.take_succ_eq_append_getElem h, List.flatMap_append, getD_get h]; simp
theorem flat_len {S : List Tx} {O : Tx → List Ru} (j : Nat) : ((S.take j).flatMap O).length + ((S.drop j).flatMap O).length = (S.flatMap O).length := by
  rw [← List.length_append, ← List.flatMap_append, List.take_append_drop]
theorem gall_ok (w : World) (x bi bf : Nat) (F : Nat → Prop) (L : List Ru) (h : GrAt w x bi bf F L) (hL : L.length ≤ 1000) :
    Calls Tryz.prog 54 #[.pointer (some ⟨x, 0, none⟩)] w fun e w' => ∃ v, e = .returned v ∧ URow 32 w' w.heap.size v L ∧ Below w.heap.size w w' := by
  have HC := Lib.hid h.cell
  have c1 := h.cell.c1
  obtain ⟨LF, K, f1, f2, f3⟩ := h.from_
  have hLF := h.full.len f1
  have B1 := (Below.refl w.heap.size w).alloc (Nat.le_refl _) (.cells #[mp bf] 174)
  have HS := Lib.hid (keysR_stops 2 (by omega) w.heap.size bf LF (w.alloc (.cells #[mp bf] 174)) (by simp) (by rw [cell_of (heap_new w _)]; rfl) (f1.keep B1))
  have HB := Lib.hid B1
  have HK := Lib.hid (fun (ss : List Tx) (hp : ss.Perm (keysL LF)) => show ss.length ≤ 1000 ∧ (canon ss).flatMap (ofL L) = L from by
    refine ⟨by rw [hp.length_eq]; unfold keysL; rw [List.length_map]; omega, all_of h.good (canon_ss ss) (fun s hs => ?_)⟩
    rw [mem_canon, hp.mem_iff]
    refine Classical.byContradiction fun hk => hs (f3.miss s ?_)
    rw [← f2, look_none]; exact hk)
  have HF1 := Lib.hid f1
  have HF2 := Lib.hid f2
  have HF3 := Lib.hid f3
  have hTL : LF.length ≤ 1000000 := by omega
  clear h f1 f2 f3 B1
  go_enter Tryz.func54, Tryz.ntmps54
  go_wp2_with fail
  refine (gisNone_no w x bi bf HC.out).mono ?_
  rintro e w' ⟨rfl, rfl⟩
  go_wp2_with fail
  refine (keysR_call _ _).mono ?_
  rintro e w1 ⟨rfl, rfl⟩
  go_wp2_with fail
  refine (collect_any _ _ enters_keysR _ _ _ HS.out hTL).mono ?_
  rintro e w2 ⟨a, c, ss, rfl, hs, t2, b2⟩
  obtain ⟨hsl, hflat⟩ := HK.out ss hs
  have HT := Lib.hid t2
  have B2 := Lib.hid (HB.out.trans (b2.mono HB.out.size))
  clear hs t2 b2 HS HK HB c1
  generalize hq : ss.length = q at *
  go_wp2_with fail
  refine (of_any a q c ss w2 HT.out (by omega)).mono ?_
  intro e w3 hm
  obtain ⟨a3, c3, rfl, t3, b3⟩ := hm.to
  have hcl := canon_len ss
  generalize canon ss = S at *
  have HT3 := Lib.hid t3
  have B3 := Lib.hid (B2.out.trans (b3.mono B2.out.size))
  have HFL := Lib.hid hflat
  clear hm t3 b3 HT B2 hflat
  obtain ⟨n, hn⟩ : ∃ n, S.length = n := ⟨_, rfl⟩
  have HN := Lib.hid hn
  rw [hn] at HT3 hcl ⊢
  clear hn
  go_wp2
  go_loopw [3, 16] (fun o i wr => ∃ j : Nat, j ≤ n ∧ i = .int .i64 (j : Int) ∧ Hid (URow 32 wr w3.heap.size o ((S.take j).flatMap (ofL L))) ∧ Hid (Below w3.heap.size w3 wr)) (fun _ i _ => n - (intOf i).toNat)
  case atStart => exact ⟨0, Nat.zero_le _, rfl, Lib.hid (by simpa using URow.nil 32 w3 w3.heap.size), Lib.hid (Below.refl _ _)⟩
  case round =>
    obtain ⟨j, hj, rfl, R, B⟩ := hrel
    have HBw := Lib.hid (B3.out.trans (B.out.mono B3.out.size))
    by_cases hjn : j < n
    · have hjz : (j : Int) < (n : Int) := by omega
      have hj0 : (0 : Int) ≤ (j : Int) := by omega
      obtain ⟨b, off, e1, hb, x0⟩ := (HT3.out.keep B.out).at_ j hjn
      subst e1
      have HS := Lib.hid (flat_take (O := ofL L) (S := S) (j := j) (by rw [HN.out]; exact hjn))
      have hle : ((S.take j).flatMap (ofL L)).length + (ofL L (S.getD j [])).length ≤ 1000 := by
        have h1 := flat_len (S := S) (O := ofL L) (j + 1)
        rw [HS.out, List.length_append, HFL.out] at h1
        omega
      obtain ⟨s, hs⟩ : ∃ s, S.getD j [] = s := ⟨_, rfl⟩
      rw [hs] at x0 HS hle
      clear hs
      obtain ⟨a1, cap, e0, hr0, _⟩ := (HF3.out.row s).shape
      have hl : (look LF s).getD (.slice none 0 0) = .slice a1 (ofL L s).length cap := by rw [HF2.out, ← e0]; rfl
      have R0 := Lib.hid (hr0.keep HBw.out)
      have M0 := Lib.hid (HF1.out.keep HBw.out)
      have c1 := (HC.out.keep HBw.out).c1
      have hsz := B.out.size
      clear e0 hr0
      go_wp2_with (first
        | (at_lookup; refine wpList_lookup_m _ rfl _ _ 174 rfl 9 38 Tryz.underlying174 Tryz.underlying9 _ (Tryz.zeroValue38 _) bf _ rfl M0.out s _ rfl rfl _ hl ?_)
        | (at_builtin; refine wpList_append_gu rfl _ _ rfl w3.heap.size _ ((S.take j).flatMap (ofL L)) rfl R.out _ _ cap (ofL L s) rfl R0.out (by omega) hsz ?_; intro v2 w4 R4 g4))
      have R5 := Lib.hid (show URow 32 w4 w3.heap.size v2 ((S.take (j + 1)).flatMap (ofL L)) from by rw [HS.out]; exact R4)
      have B5 := Lib.hid (URow.bel B.out B.out.size R.out (Nat.le_refl _) g4)
      clear R4 g4 R0 M0 c1 x0 HBw
      go_wp2
      go_roundw
      case rel => exact ⟨j + 1, by omega, by go_num, R5, B5⟩
      case measure => simp [intOf]; omega
    · have hjz : ¬ (j : Int) < (n : Int) := by omega
      obtain rfl : j = n := by omega
      rw [show S.take j = S from List.take_of_length_le (by rw [HN.out]; exact Nat.le_refl _), HFL.out] at R
      go_wp2
      go_ret
      exact ⟨_, rfl, R.out.mono B3.out.size, HBw.out⟩
end Go.Proofs.YtmifpfojhlmbkaaGreat
