/-
  Contract of the graph's All.
-/
import Derived.Test.YtlogkhifgkkjeaaGSearch
import Derived.Test.YtlogkhifgkkjeaaGIter
import Derived.Test.YtlogkhifgkkjeaaEOf
namespace Go.Proofs.Ytlogkhifgkkjeaa
open Go.RowKit Go.Shelf
set_option linter.unusedVariables false
set_option linter.unusedSimpArgs false

theorem enters_keysR : ∀ args w, (callFunc 57 args).run Try.prog w = .ok (.enter 57 args) w := enters_of Try.func57 (by kernel_rfl) rfl
theorem flat_take {S : List Tx} {O : Tx → List Ru} {j : Nat} (h : j < S.length) : (S.take (j + 1)).flatMap O = (S.take j).flatMap O ++ O (S.getD j []) := by
  rw [List.take_succ_eq_append_getElem h, List.flatMap_append, getD_get h]; simp
theorem flat_len {S : List Tx} {O : Tx → List Ru} (j : Nat) : ((S.take j).flatMap O).length + ((S.drop j).flatMap O).length = (S.flatMap O).length := by
  rw [← List.length_append, ← List.flatMap_append, List.take_append_drop]

set_option maxRecDepth 100000 in
set_option maxHeartbeats 4000000 in
theorem gall_ok (w : World) (x bi bf : Nat) (F : Nat → Prop) (L : List Ru) (h : GrAt w x bi bf F L) (hL : L.length ≤ 1000) :
    Calls Try.prog 24 #[.pointer (some ⟨x, 0, none⟩)] w fun e w' => ∃ v, e = .returned v ∧ URow 31 w' w.heap.size v L ∧ Below w.heap.size w w' := by
  have HC := Lib.hid h.cell
  have c1 := h.cell.c1
  obtain ⟨LF, K, f1, f2, f3⟩ := h.from_
  have hLF := h.full.len f1
  have B1 := (Below.refl w.heap.size w).alloc (Nat.le_refl _) (.cells #[mp bf] 61)
  have HS := Lib.hid (keysR_stops 2 (by omega) w.heap.size bf LF (w.alloc (.cells #[mp bf] 61)) (by simp) (by rw [cell_of (heap_new w _)]; rfl) (f1.keep B1))
  have HB := Lib.hid B1
  have HK := Lib.hid (fun (ss : List Tx) (hp : ss.Perm (keysL LF)) => show ss.length ≤ 1000 ∧ (canon ss).flatMap (ofL L) = L from by
    refine ⟨by rw [hp.length_eq]; unfold keysL; rw [List.length_map]; omega, all_of h.good (canon_ss ss) (fun s hs => ?_)⟩
    rw [mem_canon, hp.mem_iff]
    refine Classical.byContradiction fun hk => hs (f3.miss s ?_)
    rw [← f2, look_none]; exact hk)
  have HF1 := Lib.hid f1
  have HF2 := Lib.hid f2
  have HF3 := Lib.hid f3
  have hTL : LF.length ≤ 1000000 := by omega
  clear h f1 f2 f3 B1
  go_enter Try.func24, Try.ntmps24
  go_wp2_with fail
  refine (gisNone_no w x bi bf HC.out).mono ?_
  rintro e w' ⟨rfl, rfl⟩
  go_wp2_with fail
  refine (keysR_call _ _).mono ?_
  rintro e w1 ⟨rfl, rfl⟩
  go_wp2_with fail
  refine (collect_any _ _ enters_keysR _ _ _ HS.out hTL).mono ?_
  rintro e w2 ⟨a, c, ss, rfl, hs, t2, b2⟩
  obtain ⟨hsl, hflat⟩ := HK.out ss hs
  have HT := Lib.hid t2
  have B2 := Lib.hid (HB.out.trans (b2.mono HB.out.size))
  clear hs t2 b2 HS HK HB c1
  generalize hq : ss.length = q at *
  go_wp2_with fail
  refine (of_any a q c ss w2 HT.out (by omega)).mono ?_
  intro e w3 hm
  obtain ⟨a3, c3, rfl, t3, b3⟩ := hm.to
  have hcl := canon_len ss
  generalize canon ss = S at *
  have HT3 := Lib.hid t3
  have B3 := Lib.hid (B2.out.trans (b3.mono B2.out.size))
  have HFL := Lib.hid hflat
  clear hm t3 b3 HT B2 hflat
  obtain ⟨n, hn⟩ : ∃ n, S.length = n := ⟨_, rfl⟩
  have HN := Lib.hid hn
  rw [hn] at HT3 hcl ⊢
  clear hn
  go_wp2
  go_loopw [3, 16] (fun o i wr => ∃ j : Nat, j ≤ n ∧ i = .int .i64 (j : Int) ∧ Hid (URow 31 wr w3.heap.size o ((S.take j).flatMap (ofL L))) ∧ Hid (Below w3.heap.size w3 wr)) (fun _ i _ => n - (intOf i).toNat)
  case atStart => exact ⟨0, Nat.zero_le _, rfl, Lib.hid (by simpa using URow.nil 31 w3 w3.heap.size), Lib.hid (Below.refl _ _)⟩
  case round =>
    obtain ⟨j, hj, rfl, R, B⟩ := hrel
    have HBw := Lib.hid (B3.out.trans (B.out.mono B3.out.size))
    by_cases hjn : j < n
    · have hjz : (j : Int) < (n : Int) := by omega
      have hj0 : (0 : Int) ≤ (j : Int) := by omega
      obtain ⟨b, off, e1, hb, x0⟩ := (HT3.out.keep B.out).at_ j hjn
      subst e1
      have HS := Lib.hid (flat_take (O := ofL L) (S := S) (j := j) (by rw [HN.out]; exact hjn))
      have hle : ((S.take j).flatMap (ofL L)).length + (ofL L (S.getD j [])).length ≤ 1000 := by
        have h1 := flat_len (S := S) (O := ofL L) (j + 1)
        rw [HS.out, List.length_append, HFL.out] at h1
        omega
      obtain ⟨s, hs⟩ : ∃ s, S.getD j [] = s := ⟨_, rfl⟩
      rw [hs] at x0 HS hle
      clear hs
      obtain ⟨a1, cap, e0, hr0, _⟩ := (HF3.out.row s).shape
      have hl : (look LF s).getD (.slice none 0 0) = .slice a1 (ofL L s).length cap := by rw [HF2.out, ← e0]; rfl
      have R0 := Lib.hid (hr0.keep HBw.out)
      have M0 := Lib.hid (HF1.out.keep HBw.out)
      have c1 := (HC.out.keep HBw.out).c1
      have hsz := B.out.size
      clear e0 hr0
      go_wp2_with (first
        | (at_lookup; refine wpList_lookup_m _ rfl _ _ 61 rfl 9 51 Try.underlying61 Try.underlying9 _ (Try.zeroValue51 _) bf _ rfl M0.out s _ rfl rfl _ hl ?_)
        | (at_builtin; refine wpList_append_gu rfl _ _ rfl w3.heap.size _ ((S.take j).flatMap (ofL L)) rfl R.out _ _ cap (ofL L s) rfl R0.out (by omega) hsz ?_; intro v2 w4 R4 g4))
      have R5 := Lib.hid (show URow 31 w4 w3.heap.size v2 ((S.take (j + 1)).flatMap (ofL L)) from by rw [HS.out]; exact R4)
      have B5 := Lib.hid (URow.bel B.out B.out.size R.out (Nat.le_refl _) g4)
      clear R4 g4 R0 M0 c1 x0 HBw
      go_wp2
      go_roundw
      case rel => exact ⟨j + 1, by omega, by go_num, R5, B5⟩
      case measure => simp [intOf]; omega
    · have hjz : ¬ (j : Int) < (n : Int) := by omega
      obtain rfl : j = n := by omega
      rw [show S.take j = S from List.take_of_length_le (by rw [HN.out]; exact Nat.le_refl _), HFL.out] at R
      go_wp2
      go_ret
      exact ⟨_, rfl, R.out.mono B3.out.size, HBw.out⟩
theorem gall_nil (w : World) : Calls Try.prog 24 #[.pointer none] w fun e w' => e = .returned (.slice none 0 0) ∧ w = w' := by
  go_enter Try.func24, Try.ntmps24
  go_wp2_with fail
  refine (gisNone_nil w).mono ?_
  rintro e w' ⟨rfl, rfl⟩
  go_wp2
  go_ret
  exact ⟨rfl, rfl⟩

end Go.Proofs.Ytlogkhifgkkjeaa
