/-
  Contracts of the document's answers of layer 8: Of, Pick, Or.
-/
import Derived.Test.YtjpighkbfldloaaERef
namespace Go.Proofs.Ytjpighkbfldloaa
open Go.RowKit
set_option linter.unusedVariables false
set_option linter.unusedSimpArgs false

theorem Sh.canon {l : List Tx} (h : Sh l) : Sh (canon l) := fun x hx => h x (mem_canon.1 hx)
theorem canon_take {l : List Tx} {j : Nat} (h : j < l.length) : insS (l.getD j []) (canon (l.take j)) = canon (l.take (j + 1)) := by
  rw [List.take_succ_eq_append_getElem h, ← getD_get h]
  exact ss_ext (insS_ss (canon_ss _)) (canon_ss _) (fun z => by rw [mem_insS, mem_canon, mem_canon, List.mem_append, List.mem_singleton]; exact or_comm)
theorem Sh.take {l : List Tx} (h : Sh l) (j : Nat) : Sh (l.take j) := fun x hx => h x (List.mem_of_mem_take hx)
theorem Sh.filter {l : List Tx} (h : Sh l) (p : Tx → Bool) : Sh (l.filter p) := fun x hx => h x (List.mem_filter.1 hx).1

set_option maxRecDepth 100000 in
set_option maxHeartbeats 2000000 in
theorem rof8_any (a : Option Addr) (n c : Nat) (l : List Tx) (w : World) (h : TxAt w a n c l) (hs : Sh l) (hl : n ≤ 1000000) :
    Calls Try.prog 11 #[.slice a n c] w (SortP w (canon l)) := by
  have HA := Lib.hid h
  have HL := Lib.hid h.1
  have hm := h.2.2.1
  have HH := Lib.hid hs
  clear h hs
  go_enter Try.func11, Try.ntmps11
  go_wp2_with fail
  go_loopw [3, 4] (fun vo vi wr => ∃ (j : Nat) (b : Option Addr) (m d : Nat) (o : List Tx), vo = .slice b m d ∧ vi = .int .i64 (j : Int) ∧ j ≤ n ∧ Hid (o = canon (l.take j)) ∧ Hid (TxAt wr b m d o) ∧ Hid (Below w.heap.size w wr)) (fun _ vi _ => n - (intOf vi).toNat)
  case atStart => exact ⟨0, none, 0, 0, [], rfl, rfl, Nat.zero_le _, Lib.hid rfl, Lib.hid (TxAt.nil _ _ _), Lib.hid (Below.refl _ _)⟩
  case round =>
    obtain ⟨j, b, m, d, o, rfl, rfl, hj, HO, HT, HB⟩ := hrel
    by_cases hjn : j < n
    · obtain ⟨pb, po, rfl, hpb, x0⟩ := (HA.out.keep HB.out).at_ j hjn
      have hm1 : m ≤ 1000000 := by
        have h1 := HT.out.1
        have h2 := canon_len (l.take j)
        rw [← HO.out, List.length_take] at h2
        omega
      have HC := Lib.hid (radd8_any b m d o (l.getD j []) wr HT.out (by rw [HO.out]; exact (HH.out.take j).canon) (HH.out.at_ j) hm1)
      have HN := Lib.hid (show insS (l.getD j []) o = canon (l.take (j + 1)) from by rw [HO.out]; exact canon_take (by rw [HL.out]; exact hjn))
      generalize insS (l.getD j []) o = o2 at *
      generalize bs (l.getD j []) = s at *
      go_wp2_with fail
      refine HC.out.mono ?_
      intro e W2 hmd
      obtain ⟨b2, d2, rfl, T2, B2⟩ := hmd.to
      replace T2 := Lib.hid T2
      have HB2 := Lib.hid (HB.out.trans (B2.mono HB.out.size))
      generalize o2.length = m2 at *
      clear hmd B2 HC
      go_wp2
      go_roundw
      case rel => exact ⟨j + 1, b2, m2, d2, o2, rfl, by go_num, by omega, HN, T2, HB2⟩
      case measure => simp [intOf]; omega
    · have HN := Lib.hid (show o = canon l from by have := HO.out; rwa [List.take_of_length_le (by rw [HL.out]; omega)] at this)
      have HF := Lib.hid (show SortP w (canon l) (.returned (.slice b m d)) wr from by rw [← HN.out]; exact ⟨b, d, by rw [HT.out.1], HT.out.len, HB.out⟩)
      obtain rfl : j = n := by omega
      go_wp2
      go_ret
      exact HF.out

theorem pick_take {l y : List Tx} {t : Bool} {j : Nat} (h : j < l.length) (k : (decide (l.getD j [] ∈ y) == t) = true) : insS (l.getD j []) (pickL (l.take j) y t) = pickL (l.take (j + 1)) y t := by
  unfold pickL
  rw [List.take_succ_eq_append_getElem h, ← getD_get h, List.filter_append, List.filter_cons_of_pos (p := fun z => decide (z ∈ y) == t) k]
  exact ss_ext (insS_ss (canon_ss _)) (canon_ss _) (fun z => by rw [mem_insS, mem_canon, mem_canon, List.mem_append, List.filter_nil, List.mem_singleton]; exact or_comm)
theorem pick_pass {l y : List Tx} {t : Bool} {j : Nat} (h : j < l.length) (k : (decide (l.getD j [] ∈ y) == t) = false) : pickL (l.take j) y t = pickL (l.take (j + 1)) y t := by
  unfold pickL
  rw [List.take_succ_eq_append_getElem h, ← getD_get h, List.filter_append, List.filter_cons_of_neg (p := fun z => decide (z ∈ y) == t) (by rw [k]; simp), List.filter_nil, List.append_nil]
theorem pick_len (l y : List Tx) (t : Bool) : (pickL l y t).length ≤ l.length := Nat.le_trans (canon_len _) (List.length_filter_le _ _)
set_option maxRecDepth 100000 in
set_option maxHeartbeats 2000000 in
theorem rpick8_any (a : Option Addr) (n c : Nat) (l : List Tx) (a2 : Option Addr) (n2 c2 : Nat) (y : List Tx) (t : Bool) (w : World) (h : TxAt w a n c l) (h2 : TxAt w a2 n2 c2 y) (hs : Sh l) (hl : n ≤ 1000000) :
    Calls Try.prog 19 #[.slice a n c, .slice a2 n2 c2, .bool t] w (SortP w (pickL l y t)) := by
  have HA := Lib.hid h
  have HA2 := Lib.hid h2
  have HL := Lib.hid h.1
  have hm := h.2.2.1
  have HH := Lib.hid hs
  clear h hs h2
  go_enter Try.func19, Try.ntmps19
  go_wp2_with fail
  go_loopw [7, 8] (fun vo vi wr => ∃ (j : Nat) (b : Option Addr) (m d : Nat) (o : List Tx), vo = .slice b m d ∧ vi = .int .i64 (j : Int) ∧ j ≤ n ∧ Hid (o = pickL (l.take j) y t) ∧ Hid (TxAt wr b m d o) ∧ Hid (Below w.heap.size w wr)) (fun _ vi _ => n - (intOf vi).toNat)
  case atStart => exact ⟨0, none, 0, 0, [], rfl, rfl, Nat.zero_le _, Lib.hid rfl, Lib.hid (TxAt.nil _ _ _), Lib.hid (Below.refl _ _)⟩
  case round =>
    obtain ⟨j, b, m, d, o, rfl, rfl, hj, HO, HT, HB⟩ := hrel
    by_cases hjn : j < n
    · obtain ⟨pb, po, rfl, hpb, x0⟩ := (HA.out.keep HB.out).at_ j hjn
      have hm1 : m ≤ 1000000 := by
        have h1 := HT.out.1
        have h2 := pick_len (l.take j) y t
        rw [← HO.out, List.length_take] at h2
        omega
      have HHas := Lib.hid (rhas8_any a2 n2 c2 y (l.getD j []) wr (HA2.out.keep HB.out))
      cases hk : (decide (l.getD j [] ∈ y) == t)
      · have HN := Lib.hid (show o = pickL (l.take (j + 1)) y t from by rw [HO.out]; exact pick_pass (by rw [HL.out]; exact hjn) hk)
        generalize decide (l.getD j [] ∈ y) = r at *
        generalize bs (l.getD j []) = s at *
        clear HO
        go_wp2_with fail
        refine HHas.out.mono ?_
        rintro e W2 ⟨rfl, rfl⟩
        go_wp2
        go_roundw
        case rel => exact ⟨j + 1, b, m, d, o, rfl, by go_num, by omega, HN, HT, HB⟩
        case measure => simp [intOf]; omega
      · have HC := Lib.hid (radd8_any b m d o (l.getD j []) wr HT.out (by rw [HO.out]; exact ((HH.out.take j).filter _).canon) (HH.out.at_ j) hm1)
        have HN := Lib.hid (show insS (l.getD j []) o = pickL (l.take (j + 1)) y t from by rw [HO.out]; exact pick_take (by rw [HL.out]; exact hjn) hk)
        generalize decide (l.getD j [] ∈ y) = r at *
        generalize insS (l.getD j []) o = o2 at *
        generalize bs (l.getD j []) = s at *
        clear HO
        go_wp2_with fail
        refine HHas.out.mono ?_
        rintro e W2 ⟨rfl, rfl⟩
        go_wp2_with fail
        refine HC.out.mono ?_
        intro e W2 hmd
        obtain ⟨b2, d2, rfl, T2, B2⟩ := hmd.to
        replace T2 := Lib.hid T2
        have HB2 := Lib.hid (HB.out.trans (B2.mono HB.out.size))
        generalize o2.length = m2 at *
        clear hmd B2 HC
        go_wp2
        go_roundw
        case rel => exact ⟨j + 1, b2, m2, d2, o2, rfl, by go_num, by omega, HN, T2, HB2⟩
        case measure => simp [intOf]; omega
    · have HN := Lib.hid (show o = pickL l y t from by have := HO.out; rwa [List.take_of_length_le (by rw [HL.out]; omega)] at this)
      have HF := Lib.hid (show SortP w (pickL l y t) (.returned (.slice b m d)) wr from by rw [← HN.out]; exact ⟨b, d, by rw [HT.out.1], HT.out.len, HB.out⟩)
      obtain rfl : j = n := by omega
      go_wp2
      go_ret
      exact HF.out

set_option maxRecDepth 100000 in
set_option maxHeartbeats 2000000 in
theorem ror8_any (a : Option Addr) (n c : Nat) (x : List Tx) (a2 : Option Addr) (n2 c2 : Nat) (y : List Tx) (w : World) (h : TxAt w a n c x) (h2 : TxAt w a2 n2 c2 y) (hs : Sh x) (hs2 : Sh y) (hl : n + n2 ≤ 1000000) :
    Calls Try.prog 22 #[.slice a n c, .slice a2 n2 c2] w (SortP w (orL x y)) := by
  have B0 : Below w.heap.size w (w.alloc (.cells #[] 9)) := (Below.refl _ _).alloc (Nat.le_refl _) _
  have O0 : TRow (w.alloc (.cells #[] 9)) w.heap.size (.slice (some ⟨w.heap.size, 0, none⟩) 0 0) [] := World.ownsRow_made w #[] 0 (Nat.le_refl _) (Nat.zero_le _) rfl
  have HA := Lib.hid (h.keep B0)
  have HA2 := Lib.hid (fun W (b : Below w.heap.size w W) => h2.keep b)
  have hx := h.1
  have hy := h2.1
  have HO0 := Lib.hid O0
  have HB0 := Lib.hid B0
  have HS := Lib.hid (show Sh (x ++ y) from fun z hz => by rcases List.mem_append.1 hz with e | e; exact hs z e; exact hs2 z e)
  have HR := Lib.hid (canon_or x y)
  clear h h2 B0 O0 hs hs2
  go_enter Try.func22, Try.ntmps22
  go_wp2_with (at_builtin; refine wpList_append_tx rfl _ _ rfl w.heap.size _ [] rfl HO0.out a n c x rfl HA.out (by simp; omega) HB0.out.size ?_)
  intro v1 W1 O1 g1
  have B1 := TRow.bel HB0.out HB0.out.size HO0.out (Nat.le_refl _) g1
  have HO1 := Lib.hid O1
  have HB1 := Lib.hid B1
  clear O1 B1 g1 HO0 HB0
  go_wp2_with (at_builtin; refine wpList_append_tx rfl _ _ rfl w.heap.size _ x rfl HO1.out a2 n2 c2 y rfl (HA2.out _ HB1.out) (by omega) HB1.out.size ?_)
  intro v2 W2 O2 g2
  have B2 := TRow.bel HB1.out HB1.out.size HO1.out (Nat.le_refl _) g2
  obtain ⟨b, d, rfl, T2⟩ := O2.shape
  have HC := Lib.hid (rof8_any b _ d (x ++ y) W2 T2 HS.out (by rw [List.length_append]; omega))
  rw [HR.out] at HC
  have HB2 := Lib.hid B2
  clear O2 B2 g2 T2
  generalize (x ++ y).length = m at *
  go_wp2_with fail
  refine HC.out.mono ?_
  rintro e W3 ⟨b3, d3, rfl, T3, B3⟩
  have HF := Lib.hid (show SortP w (orL x y) (.returned (.slice b3 (orL x y).length d3)) W3 from ⟨b3, d3, rfl, T3, HB2.out.trans (B3.mono HB2.out.size)⟩)
  clear T3 B3
  generalize (orL x y).length = m3 at *
  go_wp2
  go_ret
  exact HF.out

end Go.Proofs.Ytjpighkbfldloaa
