/-
  Contracts of the document's answers of layer 9 that read: Key, Right, Labels, Keys, Size, Find.
-/
import Derived.Test.YtpkbkemenfdadaaIFar
import Derived.Test.YtpkbkemenfdadaaIRight
namespace Go.Proofs.Ytpkbkemenfdadaa
open Go.RowKit
set_option linter.unusedVariables false
set_option linter.unusedSimpArgs false

theorem rkey_any (s : Tx) (w : World) : Calls Try.prog 30 #[.string (bs s)] w fun e w' => e = .returned (.bool (decide (keyB s))) ∧ w = w' := by
  have hs := bs_size s
  by_cases h1 : 1 ≤ s.length
  · have h1z : decide ((1 : Int) ≤ ((bs s).size : Int)) = true := decide_eq_true (by omega)
    go_enter Try.func30, Try.ntmps30
    go_wp2
    go_ret
    exact ⟨ret_bool (decide_eq_decide.2 (by unfold keyB; omega)), rfl⟩
  · have h1z : decide ((1 : Int) ≤ ((bs s).size : Int)) = false := decide_eq_false (by omega)
    go_enter Try.func30, Try.ntmps30
    go_wp2
    go_ret
    exact ⟨ret_bool (decide_eq_false (by unfold keyB; omega)).symm, rfl⟩

theorem in_upto {l : List Lb} {n : Tx} {j : Nat} (hj : j ≤ l.length) : n ∈ keysL (l.take j) ↔ ∃ i, i < j ∧ lN l i = n := by
  constructor
  · intro h
    obtain ⟨x, hx, e⟩ := List.mem_map.1 h
    obtain ⟨i, hi, ex⟩ := List.getElem_of_mem hx
    rw [List.length_take] at hi
    have hi2 : i < l.length := by omega
    rw [List.getElem_take, lb_get hi2] at ex
    exact ⟨i, by omega, by rw [← e, ← ex]⟩
  · rintro ⟨i, hi, rfl⟩
    have hi2 : i < l.length := by omega
    refine List.mem_map.2 ⟨(lN l i, lV l i), ?_, rfl⟩
    have : i < (l.take j).length := by rw [List.length_take]; omega
    have e := List.getElem_mem this
    rw [List.getElem_take, lb_get hi2] at e
    exact e

set_option maxRecDepth 100000 in
set_option maxHeartbeats 2000000 in
theorem rright9_any (a : Option Addr) (n c : Nat) (l : List Lb) (w : World) (h : LbAt w a n c l) :
    Calls Try.prog 32 #[.slice a n c] w fun e w' => e = .returned (.bool (decide (rightL l))) ∧ Drew w w' := by
  have HN := Lib.hid h.1
  have h63 := h.2.2.1
  have HL := Lib.hid h
  have H0 := Lib.hid (show okUpto l 0 from ⟨by simp, by simp [keysL]⟩)
  clear h
  go_enter Try.func32, Try.ntmps32
  go_wp2
  go_loopw [3] (fun i wr => ∃ j : Nat, j ≤ n ∧ i = .int .i64 (j : Int) ∧ Hid (okUpto l j) ∧ Drew w wr) (fun i _ => n - (intOf i).toNat)
  case atStart => exact ⟨0, Nat.zero_le _, rfl, H0, 0, rfl⟩
  case round =>
    obtain ⟨j, hj, rfl, HO, hd⟩ := hrel
    clear H0
    by_cases hjn : j < n
    · have hjz : (j : Int) < (n : Int) := by omega
      have hj0 : (0 : Int) ≤ (j : Int) := by omega
      have hjl : j < l.length := by rw [HN.out]; exact hjn
      obtain ⟨p, o, rfl, hp, x0, x1⟩ := (HL.out.keep hd.bel).at_ j hjn
      have HK := Lib.hid (not_right_key hjl)
      have HK1 := Lib.hid (fun W => rkey_any (lN l j) W)
      have HK2 := Lib.hid (fun W => rkey_any (lV l j) W)
      by_cases k1 : keyB (lN l j)
      · rw [decide_eq_true k1] at HK1
        have HB1 := Lib.hid k1
        clear k1
        by_cases k2 : keyB (lV l j)
        · rw [decide_eq_true k2] at HK2
          have HB2 := Lib.hid k2
          clear k2
          have HD0 := Lib.hid (show ∀ i, i < 0 → lN l i ≠ lN l j from fun i hi => absurd hi (Nat.not_lt_zero i))
          go_wp2_with fail
          refine (HK1.out _).mono ?_
          rintro e w' ⟨rfl, rfl⟩
          go_wp2_with fail
          refine (HK2.out _).mono ?_
          rintro e w' ⟨rfl, rfl⟩
          go_wp2_with fail
          clear HK1 HK2 HK x0 x1
          obtain ⟨wo, rfl⟩ : ∃ wo : World, wo = wr := ⟨_, rfl⟩
          go_loopw [4] (fun i wr => ∃ k : Nat, k ≤ j ∧ i = .int .i64 (k : Int) ∧ Hid (∀ i, i < k → lN l i ≠ lN l j) ∧ Drew w wr) (fun i _ => j - (intOf i).toNat)
          case atStart => exact ⟨0, Nat.zero_le _, rfl, HD0, hd⟩
          case round =>
            clear HD0 hd
            obtain ⟨k, hk, rfl, HD, hd⟩ := hrel
            by_cases hkj : k < j
            · have hkz : (k : Int) < (j : Int) := by omega
              have hk0 : (0 : Int) ≤ (k : Int) := by omega
              have hkn : (k : Int) < (n : Int) := by omega
              obtain ⟨p2, o2, e1, hp2, y0, y1, x0, x1⟩ := (HL.out.keep hd.bel).two k j (by omega) hjn
              obtain ⟨rfl, rfl⟩ : p = p2 ∧ o = o2 := by simpa using e1
              clear e1 y1 x1
              have t1 := eq_bs (lN l k) (lN l j)
              by_cases he : lN l k = lN l j
              · have HF := Lib.hid (not_right_dup hjl ((in_upto (by omega)).2 ⟨k, hkj, he⟩))
                rw [decide_eq_true he] at t1
                clear he
                generalize bs (lN l k) = q1 at *
                generalize bs (lN l j) = q2 at *
                have z0 : ∀ q, (wr.drewN q).cell? ⟨p, o + k * 2, none⟩ = some (.string q1) := fun q => y0
                have z1 : ∀ q, (wr.drewN q).cell? ⟨p, o + j * 2, none⟩ = some (.string q2) := fun q => x0
                go_wp2
                go_quiet (fail)
                go_wp2
                go_ret
                exact ⟨ret_bool (decide_eq_false HF.out).symm, hd.trans ⟨_, rfl⟩⟩
              · have HD2 := Lib.hid (show ∀ i, i < k + 1 → lN l i ≠ lN l j from fun i hi => by
                  rcases Nat.lt_or_ge i k with h | h
                  · exact HD.out i h
                  · have : i = k := by omega
                    rw [this]; exact he)
                rw [decide_eq_false he] at t1
                clear he HD
                generalize bs (lN l k) = q1 at *
                generalize bs (lN l j) = q2 at *
                have z0 : ∀ q, (wr.drewN q).cell? ⟨p, o + k * 2, none⟩ = some (.string q1) := fun q => y0
                have z1 : ∀ q, (wr.drewN q).cell? ⟨p, o + j * 2, none⟩ = some (.string q2) := fun q => x0
                go_wp2
                go_quiet (fail)
                go_wp2
                go_roundw
                case rel => exact ⟨k + 1, by omega, by go_num, HD2, hd.trans ⟨_, rfl⟩⟩
                case measure => simp [intOf]; omega
            · have hkz : ¬ (k : Int) < (j : Int) := by omega
              obtain rfl : k = j := by omega
              have HO2 := Lib.hid (okUpto_snoc hjl HO.out HB1.out HB2.out (fun hm => by
                obtain ⟨i, hi, e⟩ := (in_upto (Nat.le_of_lt hjl)).1 hm
                exact HD.out i hi e))
              go_wp2
              go_roundw
              case rel => exact ⟨k + 1, by omega, by go_num, HO2, hd⟩
              case measure => simp [intOf]; omega
        · rw [decide_eq_false k2] at HK2
          have HF := Lib.hid (HK.out (fun h => k2 h.2))
          clear k2
          go_wp2_with fail
          refine (HK1.out _).mono ?_
          rintro e w' ⟨rfl, rfl⟩
          go_wp2_with fail
          refine (HK2.out _).mono ?_
          rintro e w' ⟨rfl, rfl⟩
          go_wp2
          go_ret
          exact ⟨ret_bool (decide_eq_false HF.out).symm, hd⟩
      · rw [decide_eq_false k1] at HK1
        have HF := Lib.hid (HK.out (fun h => k1 h.1))
        clear k1
        go_wp2_with fail
        refine (HK1.out _).mono ?_
        rintro e w' ⟨rfl, rfl⟩
        go_wp2
        go_ret
        exact ⟨ret_bool (decide_eq_false HF.out).symm, hd⟩
    · have hjz : ¬ (j : Int) < (n : Int) := by omega
      obtain rfl : j = n := by omega
      by_cases k8 : j ≤ 8
      · have HF := Lib.hid (show rightL l from right_all (by rw [HN.out]; exact k8) (by rw [HN.out]; exact HO.out))
        have k8z : (j : Int) ≤ 8 := by omega
        go_wp2
        go_ret
        exact ⟨ret_bool (decide_eq_true HF.out).symm, hd⟩
      · have HF := Lib.hid (show ¬ rightL l from fun h => k8 (by rw [← HN.out]; exact h.1))
        have k8z : ¬ (j : Int) ≤ 8 := by omega
        go_wp2
        go_ret
        exact ⟨ret_bool (decide_eq_false HF.out).symm, hd⟩

theorem key_ents {T : List EnT} {k : Tx} : k ∈ keysL (ents T) ↔ ∃ i, ∃ (h : i < T.length), T[i].key = k := by
  unfold keysL ents
  rw [List.map_map, List.mem_map]
  constructor
  · rintro ⟨e, he, rfl⟩
    obtain ⟨i, hi, rfl⟩ := List.getElem_of_mem he
    exact ⟨i, hi, rfl⟩
  · rintro ⟨i, hi, rfl⟩
    exact ⟨T[i], List.getElem_mem hi, rfl⟩
theorem ents_mem {T : List EnT} {i : Nat} (h : i < T.length) : (T[i].key, T[i].l) ∈ ents T := List.mem_map.2 ⟨T[i], List.getElem_mem h, rfl⟩

set_option maxRecDepth 100000 in
set_option maxHeartbeats 2000000 in
theorem rlabels_any (w : World) (r : Nat) (a : Option Addr) (n c : Nat) (T : List EnT) (key : Tx) (h : RefAt w r a n c T) (hn : (keysL (ents T)).Nodup) :
    Calls Try.prog 18 #[.pointer (some ⟨r, 0, none⟩), .string (bs key)] w fun e w' => ∃ a' n' c', e = .returned (.tuple #[.slice a' n' c', .bool (decide (key ∈ keysL (ents T)))]) ∧ LbAt w a' n' c' ((look (ents T) key).getD []) ∧ w = w' := by
  have HR := Lib.hid h
  have HN := Lib.hid hn
  have HL := Lib.hid h.row.1
  have h63 := h.row.2.2.1
  have c0 := h.cell.c0
  have H0 := Lib.hid (show ∀ i, i < 0 → ∀ (h : i < T.length), T[i].key ≠ key from fun i hi => absurd hi (Nat.not_lt_zero i))
  clear h hn
  go_enter Try.func18, Try.ntmps18
  go_wp2_with fail
  go_loopw [6] (fun vi wr => ∃ j : Nat, vi = .int .i64 (j : Int) ∧ j ≤ n ∧ Hid (∀ i, i < j → ∀ (h : i < T.length), T[i].key ≠ key) ∧ w = wr) (fun vi _ => n - (intOf vi).toNat)
  case atStart => exact ⟨0, rfl, Nat.zero_le _, H0, rfl⟩
  case round =>
    obtain ⟨j, rfl, hj, HD, rfl⟩ := hrel
    clear H0
    by_cases hjn : j < n
    · have hjz : (j : Int) < (n : Int) := by omega
      have hj0 : (0 : Int) ≤ (j : Int) := by omega
      obtain ⟨p, o, hT, rfl, hp, x0, x1, hl⟩ := HR.out.at_ j hjn
      have t1 := eq_bs T[j].key key
      have HLb := Lib.hid hl
      have HM := Lib.hid (ents_mem hT)
      by_cases he : T[j].key = key
      · have HK := Lib.hid (show key ∈ keysL (ents T) from key_ents.2 ⟨j, hT, he⟩)
        have HLK := Lib.hid (show (look (ents T) key).getD [] = T[j].l from by rw [← he, mem_look HN.out HM.out]; rfl)
        rw [decide_eq_true he] at t1
        clear he HD hl
        generalize bs T[j].key = q1 at *
        go_wp2
        go_ret2
        exact ⟨_, _, _, by rw [decide_eq_true HK.out]; rfl, by rw [HLK.out]; exact HLb.out, rfl⟩
      · have HD2 := Lib.hid (show ∀ i, i < j + 1 → ∀ (h : i < T.length), T[i].key ≠ key from fun i hi h => by
          rcases Nat.lt_or_ge i j with h1 | h1
          · exact HD.out i h1 h
          · have : i = j := by omega
            subst this; exact he)
        rw [decide_eq_false he] at t1
        clear he HD hl HLb HM
        generalize bs T[j].key = q1 at *
        go_wp2
        go_roundw
        case rel => exact ⟨j + 1, by go_num, by omega, HD2, by first | rfl | trivial⟩
        case measure => simp [intOf]; omega
    · have hjz : ¬ (j : Int) < (n : Int) := by omega
      obtain rfl : j = n := by omega
      have HK := Lib.hid (show key ∉ keysL (ents T) from fun h => by
        obtain ⟨i, hi, e⟩ := key_ents.1 h
        exact HD.out i (by rw [← HL.out]; exact hi) hi e)
      go_wp2
      go_ret2
      exact ⟨none, 0, 0, by rw [decide_eq_false HK.out]; rfl, by rw [look_none.2 HK.out]; exact LbAt.nil _ _ _, rfl⟩

theorem size_snoc {T : List EnT} {j : Nat} (h : j < T.length) : sizeE (ents (T.take (j + 1))) = sizeE (ents (T.take j)) + T[j].l.length := by
  rw [List.take_succ_eq_append_getElem h]
  unfold sizeE ents
  rw [List.map_append, List.map_append, List.sum_append]; simp [EnT.ent]
set_option maxRecDepth 100000 in
set_option maxHeartbeats 2000000 in
theorem rsize_any (w : World) (r : Nat) (a : Option Addr) (n c : Nat) (T : List EnT) (h : RefAt w r a n c T) (hg : ∀ p ∈ ents T, rightL p.2) (hn : n ≤ 1000) :
    Calls Try.prog 25 #[.pointer (some ⟨r, 0, none⟩)] w fun e w' => e = .returned (.int .i64 (sizeE (ents T) : Int)) ∧ w = w' := by
  have HR := Lib.hid h
  have HL := Lib.hid h.row.1
  have HG := Lib.hid hg
  have c0 := h.cell.c0
  clear h hg
  go_enter Try.func25, Try.ntmps25
  go_wp2_with fail
  go_loopw [3, 4] (fun vs vi wr => ∃ j s : Nat, vs = .int .i64 (s : Int) ∧ vi = .int .i64 (j : Int) ∧ j ≤ n ∧ s ≤ 8 * j ∧ Hid (s = sizeE (ents (T.take j))) ∧ w = wr) (fun _ vi _ => n - (intOf vi).toNat)
  case atStart => exact ⟨0, 0, rfl, rfl, Nat.zero_le _, Nat.le_refl _, Lib.hid rfl, rfl⟩
  case round =>
    obtain ⟨j, s, rfl, rfl, hj, hs, HS, rfl⟩ := hrel
    by_cases hjn : j < n
    · have hjz : (j : Int) < (n : Int) := by omega
      have hj0 : (0 : Int) ≤ (j : Int) := by omega
      obtain ⟨p, o, hT, rfl, hp, x0, x1, hl⟩ := HR.out.at_ j hjn
      have h8 : T[j].n ≤ 8 := by rw [← hl.1]; exact (HG.out _ (ents_mem hT)).1
      have HS2 := Lib.hid (show s + T[j].n = sizeE (ents (T.take (j + 1))) from by rw [size_snoc hT, HS.out, hl.1])
      clear hl HS
      generalize T[j].n = q at *
      generalize T[j].a = qa at *
      generalize T[j].c = qc at *
      go_wp2
      go_roundw
      case rel => exact ⟨j + 1, s + q, by go_num, by go_num, by omega, by omega, HS2, by first | rfl | trivial⟩
      case measure => simp [intOf]; omega
    · have hjz : ¬ (j : Int) < (n : Int) := by omega
      obtain rfl : j = n := by omega
      rw [List.take_of_length_le (by rw [HL.out]; exact Nat.le_refl _)] at HS
      go_wp2
      go_ret
      exact ⟨by rw [← HS.out]; rfl, rfl⟩

theorem keys_snoc {T : List EnT} {j : Nat} (h : j < T.length) : keysL (ents (T.take (j + 1))) = keysL (ents (T.take j)) ++ [T[j].key] := by
  rw [List.take_succ_eq_append_getElem h]
  unfold keysL ents
  rw [List.map_append, List.map_append]; rfl
set_option maxRecDepth 100000 in
set_option maxHeartbeats 2000000 in
theorem rkeys_any (w : World) (r : Nat) (a : Option Addr) (n c : Nat) (T : List EnT) (h : RefAt w r a n c T) (hn : n ≤ 1000) :
    Calls Try.prog 23 #[.pointer (some ⟨r, 0, none⟩)] w (MadeP w (keysL (ents T))) := by
  have HR := Lib.hid h
  have HL := Lib.hid h.row.1
  clear h
  go_enter Try.func23, Try.ntmps23
  go_wp2_with fail
  go_loopw [3, 4] (fun vo vi wr => ∃ (j : Nat) (o : List Tx), vi = .int .i64 (j : Int) ∧ j ≤ n ∧ Hid (o.length = j) ∧ Hid (TRow wr w.heap.size vo o) ∧ Hid (Below w.heap.size w wr) ∧ Hid (o = keysL (ents (T.take j)))) (fun _ vi _ => n - (intOf vi).toNat)
  case atStart => exact ⟨0, [], rfl, Nat.zero_le _, Lib.hid rfl, Lib.hid (TRow.nil _ _), Lib.hid (Below.refl _ _), Lib.hid rfl⟩
  case round =>
    obtain ⟨j, o, rfl, hj, HN, HO, HB, HM⟩ := hrel
    have R1 := HR.out.keep HB.out
    have c0 := R1.cell.c0
    by_cases hjn : j < n
    · have hjz : (j : Int) < (n : Int) := by omega
      have hj0 : (0 : Int) ≤ (j : Int) := by omega
      obtain ⟨p, q, hT, rfl, hp, x0, x1, hl⟩ := R1.at_ j hjn
      have HM2 := Lib.hid (show o ++ [T[j].key] = keysL (ents (T.take (j + 1))) from by rw [keys_snoc hT, HM.out])
      clear hl x1 R1 HM
      generalize T[j].key = y at *
      have B0 := (Below.refl wr.heap.size wr).alloc (Nat.le_refl _) (.cells #[.string (bs y)] 9)
      have HO2 := Lib.hid (HO.out.alloc (.cells #[.string (bs y)] 9))
      have HT2 := Lib.hid (TxAt.one wr y)
      have HB2 := Lib.hid (HB.out.trans (B0.mono HB.out.size))
      clear B0 HO HB
      generalize bs y = sp at *
      go_wp2_with (at_builtin; refine wpList_append_tx rfl _ _ rfl w.heap.size _ o rfl HO2.out _ 1 1 [y] rfl HT2.out (by rw [HN.out]; omega) HB2.out.size ?_)
      intro v3 W3 O3 g3
      have B3 := TRow.bel HB2.out HB2.out.size HO2.out (Nat.le_refl _) g3
      clear HO2 HB2 HT2 g3
      go_wp2
      go_roundw
      case rel => exact ⟨j + 1, _, by go_num, by omega, Lib.hid (by rw [List.length_append, HN.out]; rfl), Lib.hid O3, Lib.hid B3, HM2⟩
      case measure => simp [intOf]; omega
    · have hjz : ¬ (j : Int) < (n : Int) := by omega
      obtain rfl : j = n := by omega
      rw [List.take_of_length_le (by rw [HL.out]; exact Nat.le_refl _)] at HM
      go_wp2
      go_ret
      exact ⟨_, rfl, by rw [← HM.out]; exact HO.out, HB.out⟩


/-- What is found: by a name, or by a name and a value. -/
def gotE (b : Bool) (n v : Tx) (E : List Ent) : List Tx := if b then withE E n else findE E n v
def hitP (b : Bool) (n v : Tx) (l : List Lb) : Prop := if b then n ∈ keysL l else (n, v) ∈ l
instance (b : Bool) (n v : Tx) (l : List Lb) : Decidable (hitP b n v l) := by unfold hitP; exact inferInstance
theorem hit_zero (b : Bool) (n v : Tx) {l : List Lb} : ¬ hitP b n v (l.take 0) := by cases b <;> simp [hitP, keysL]
theorem hit_snoc (b : Bool) (n v : Tx) {l : List Lb} {k : Nat} (h : k < l.length) : hitP b n v (l.take (k + 1)) ↔ hitP b n v (l.take k) ∨ (lN l k = n ∧ (b = true ∨ lV l k = v)) := by
  rw [take_snoc9 h]
  cases b
  · unfold hitP
    simp only [Bool.false_eq_true, if_false, List.mem_append, List.mem_singleton, Prod.mk.injEq, false_or]
    exact or_congr Iff.rfl ⟨fun ⟨a, b⟩ => ⟨a.symm, b.symm⟩, fun ⟨a, b⟩ => ⟨a.symm, b.symm⟩⟩
  · unfold hitP keysL
    simp only [if_true, List.map_append, List.mem_append, List.map_cons, List.map_nil, List.mem_singleton, true_or, and_true]
    exact or_congr Iff.rfl eq_comm
theorem hit_not (b : Bool) {nm vl : Tx} {l : List Lb} (hn : (keysL l).Nodup) {k : Nat} (h : k < l.length) (e : lN l k = nm) : ¬ hitP b nm vl (l.take k) := by
  have h1 : nm ∉ keysL (l.take k) := fun hm => by
    obtain ⟨i, hi, e2⟩ := (in_upto (Nat.le_of_lt h)).1 hm
    have hi2 : i < l.length := by omega
    have e3 : (keysL l)[i]'(by unfold keysL; rw [List.length_map]; exact hi2) = (keysL l)[k]'(by unfold keysL; rw [List.length_map]; exact h) := by
      unfold keysL
      rw [List.getElem_map, List.getElem_map, lb_get hi2, lb_get h]
      exact e2.trans e.symm
    have := (List.getElem_inj hn).1 e3
    omega
  cases b
  · unfold hitP
    intro hm
    exact h1 (List.mem_map.2 ⟨_, by simpa using hm, rfl⟩)
  · unfold hitP
    simpa using h1
theorem got_snoc (b : Bool) (n v : Tx) {T : List EnT} {j : Nat} (h : j < T.length) : gotE b n v (ents (T.take (j + 1))) = gotE b n v (ents (T.take j)) ++ (if hitP b n v T[j].l then [T[j].key] else []) := by
  rw [List.take_succ_eq_append_getElem h]
  cases b
  · unfold gotE findE keysL ents hitP
    simp only [Bool.false_eq_true, if_false, List.map_append, List.filter_append, List.map_cons, List.map_nil, EnT.ent]
    congr 1
    by_cases hz : (n, v) ∈ T[j].l
    · rw [List.filter_cons_of_pos (by simpa using hz), if_pos hz]; rfl
    · rw [List.filter_cons_of_neg (by simpa using hz), if_neg hz]; rfl
  · unfold gotE withE ents hitP
    simp only [if_true, List.map_append, List.filter_append, List.map_cons, List.map_nil, EnT.ent]
    unfold keysL
    rw [List.map_append]
    congr 1
    by_cases hz : n ∈ List.map Prod.fst T[j].l
    · rw [List.filter_cons_of_pos (p := fun p : Ent => decide (n ∈ List.map Prod.fst p.2)) (decide_eq_true hz), if_pos hz]; rfl
    · rw [List.filter_cons_of_neg (by simpa using hz), if_neg hz]; rfl

set_option maxRecDepth 100000 in
set_option maxHeartbeats 4000000 in
theorem rfind_any (w : World) (r : Nat) (a : Option Addr) (n c : Nat) (T : List EnT) (nm vl : Tx) (h : RefAt w r a n c T) (hg : ∀ p ∈ ents T, rightL p.2) (hn : n ≤ 1000) :
    Calls Try.prog 27 #[.pointer (some ⟨r, 0, none⟩), .string (bs nm), .string (bs vl), .bool true] w (MadeP w (gotE true nm vl (ents T))) := by
  have HR := Lib.hid h
  have HL := Lib.hid h.row.1
  have HG := Lib.hid hg
  clear h hg
  go_enter Try.func27, Try.ntmps27
  go_wp2_with fail
  go_loopw [9, 10] (fun vo vi wr => ∃ (j : Nat) (o : List Tx), vi = .int .i64 (j : Int) ∧ j ≤ n ∧ o.length ≤ 8 * j ∧ Hid (TRow wr w.heap.size vo o) ∧ Hid (Below w.heap.size w wr) ∧ Hid (o = gotE true nm vl (ents (T.take j)))) (fun _ vi _ => n - (intOf vi).toNat)
  case atStart => exact ⟨0, [], rfl, Nat.zero_le _, Nat.le_refl _, Lib.hid (TRow.nil _ _), Lib.hid (Below.refl _ _), Lib.hid rfl⟩
  case round =>
    obtain ⟨j, o, rfl, hj, hol, HO, HB, HM⟩ := hrel
    have R1 := HR.out.keep HB.out
    have c0 := R1.cell.c0
    by_cases hjn : j < n
    · have hjz : (j : Int) < (n : Int) := by omega
      have hj0 : (0 : Int) ≤ (j : Int) := by omega
      obtain ⟨p, q, hT, rfl, hp, x0, x1, hl⟩ := R1.at_ j hjn
      have HGJ := Lib.hid (HG.out _ (ents_mem hT))
      have HSN := Lib.hid (got_snoc true nm vl hT)
      obtain ⟨tj, htj⟩ : ∃ tj, T[j] = tj := ⟨_, rfl⟩
      rw [htj] at HGJ HSN
      have HTJ := Lib.hid (show ∀ h : j < T.length, T[j] = tj from fun _ => htj)
      obtain ⟨y, ya, yn, yc, l⟩ := tj
      have h8 : yn ≤ 8 := by rw [htj] at hl; have e : l.length = yn := hl.1; rw [← e]; exact HGJ.out.1
      have HND := Lib.hid (show (keysL l).Nodup from HGJ.out.2.2)
      have HLN := Lib.hid (show l.length = yn from by rw [htj] at hl; exact hl.1)
      have HM0 := Lib.hid (show o = gotE true nm vl (ents (T.take j)) ++ (if hitP true nm vl (l.take 0) then [y] else []) from by rw [if_neg (hit_zero true nm vl), List.append_nil, HM.out])
      clear hl R1 HM HGJ htj x0 x1 hT hp
      obtain ⟨wo, hwo⟩ : ∃ wo : World, wo = wr := ⟨_, rfl⟩
      go_wp2_with fail
      clear hwo c0
      obtain ⟨wo2, rfl⟩ : ∃ wo : World, wo = wr := ⟨_, rfl⟩
      go_loopw [9, 11] (fun vo vk wr => ∃ (k : Nat) (o : List Tx), vk = .int .i64 (k : Int) ∧ k ≤ yn ∧ o.length ≤ 8 * j + k ∧ Hid (TRow wr w.heap.size vo o) ∧ Hid (Below w.heap.size w wr) ∧ Hid (o = gotE true nm vl (ents (T.take j)) ++ (if hitP true nm vl (l.take k) then [y] else []))) (fun _ vk _ => yn - (intOf vk).toNat)
      case atStart => exact ⟨0, o, rfl, Nat.zero_le _, by omega, HO, HB, HM0⟩
      case round =>
        clear HM0 HO HB hol
        obtain ⟨k, o, rfl, hk, hol, HO, HB, HM⟩ := hrel
        have R1 := HR.out.keep HB.out
        have c0 := R1.cell.c0
        obtain ⟨p2, q2, hT, e1, hp, x0, x1, hl⟩ := R1.at_ j hjn
        obtain ⟨rfl, rfl⟩ : p = p2 ∧ q = q2 := by simpa using e1
        rw [HTJ.out hT] at x0 x1 hl
        have x0 : wr.cell? ⟨p, q + j * 2, none⟩ = some (.string (bs y)) := x0
        have x1 : wr.cell? ⟨p, q + j * 2 + 1, none⟩ = some (.slice ya yn yc) := x1
        have hl : LbAt wr ya yn yc l := hl
        by_cases hkn : k < yn
        · have hkz : (k : Int) < (yn : Int) := by omega
          have hk0 : (0 : Int) ≤ (k : Int) := by omega
          obtain ⟨pb, po, rfl, hpb, y0, y1⟩ := hl.at_ k hkn
          have hkl : k < l.length := by rw [HLN.out]; exact hkn
          have HH := Lib.hid (hit_snoc true nm vl hkl)
          have HNO := Lib.hid (fun e => hit_not true (vl := vl) (nm := nm) HND.out hkl e)
          have t1 := eq_bs (lN l k) nm
          have t2 := eq_bs (lV l k) vl
          clear hl R1 e1 hkl
          by_cases he1 : lN l k = nm
          · clear t2
            rw [decide_eq_true he1] at t1
            have HM2 := Lib.hid (show o ++ [y] = gotE true nm vl (ents (T.take j)) ++ (if hitP true nm vl (l.take (k + 1)) then [y] else []) from by
              rw [HM.out, if_neg (HNO.out he1), if_pos ((HH.out).2 (.inr ⟨he1, .inl rfl⟩)), List.append_nil])
            clear he1 HM HNO HH
            generalize bs (lN l k) = q1 at *
            generalize bs (lV l k) = q2 at *
            have B0 := (Below.refl wr.heap.size wr).alloc (Nat.le_refl _) (.cells #[.string (bs y)] 9)
            have HO2 := Lib.hid (HO.out.alloc (.cells #[.string (bs y)] 9))
            have HT2 := Lib.hid (TxAt.one wr y)
            have HB2 := Lib.hid (HB.out.trans (B0.mono HB.out.size))
            clear B0 HO HB
            generalize bs y = sp at *
            go_wp2_with (at_builtin; refine wpList_append_tx rfl _ _ rfl w.heap.size _ o rfl HO2.out _ 1 1 [y] rfl HT2.out (by omega) HB2.out.size ?_)
            intro v3 W3 O3 g3
            have B3 := TRow.bel HB2.out HB2.out.size HO2.out (Nat.le_refl _) g3
            clear HO2 HB2 HT2 g3
            go_wp2
            go_roundw
            case rel => exact ⟨k + 1, _, by go_num, by omega, by rw [List.length_append, List.length_singleton]; omega, Lib.hid O3, Lib.hid B3, HM2⟩
            case measure => simp [intOf]; omega
          · clear t2
            rw [decide_eq_false he1] at t1
            have HM2 := Lib.hid (show o = gotE true nm vl (ents (T.take j)) ++ (if hitP true nm vl (l.take (k + 1)) then [y] else []) from by
              rw [HM.out]
              congr 1
              have hh : hitP true nm vl (l.take (k + 1)) ↔ hitP true nm vl (l.take k) := (HH.out).trans ⟨fun h => h.elim id (fun h => absurd h.1 he1), .inl⟩
              by_cases hz : hitP true nm vl (l.take k)
              · rw [if_pos hz, if_pos (hh.2 hz)]
              · rw [if_neg hz, if_neg (fun h => hz (hh.1 h))])
            clear he1 HM HNO HH
            generalize bs (lN l k) = q1 at *
            generalize bs (lV l k) = q2 at *
            go_wp2
            go_roundw
            case rel => exact ⟨k + 1, o, by go_num, by omega, by omega, HO, HB, HM2⟩
            case measure => simp [intOf]; omega
        · have hkz : ¬ (k : Int) < (yn : Int) := by omega
          obtain rfl : k = yn := by omega
          have hlk : l.take k = l := List.take_of_length_le (by rw [HLN.out]; exact Nat.le_refl _)
          rw [hlk, ← HSN.out] at HM
          clear hl R1 e1
          go_wp2
          go_roundw
          case rel => exact ⟨j + 1, o, by go_num, by omega, by omega, HO, HB, HM⟩
          case measure => simp [intOf]; omega
    · have hjz : ¬ (j : Int) < (n : Int) := by omega
      obtain rfl : j = n := by omega
      rw [List.take_of_length_le (by rw [HL.out]; exact Nat.le_refl _)] at HM
      go_wp2
      go_ret
      exact ⟨_, rfl, by rw [← HM.out]; exact HO.out, HB.out⟩

set_option maxRecDepth 100000 in
set_option maxHeartbeats 4000000 in
theorem rfind_one (w : World) (r : Nat) (a : Option Addr) (n c : Nat) (T : List EnT) (nm vl : Tx) (h : RefAt w r a n c T) (hg : ∀ p ∈ ents T, rightL p.2) (hn : n ≤ 1000) :
    Calls Try.prog 27 #[.pointer (some ⟨r, 0, none⟩), .string (bs nm), .string (bs vl), .bool false] w (MadeP w (gotE false nm vl (ents T))) := by
  have HR := Lib.hid h
  have HL := Lib.hid h.row.1
  have HG := Lib.hid hg
  clear h hg
  go_enter Try.func27, Try.ntmps27
  go_wp2_with fail
  go_loopw [9, 10] (fun vo vi wr => ∃ (j : Nat) (o : List Tx), vi = .int .i64 (j : Int) ∧ j ≤ n ∧ o.length ≤ 8 * j ∧ Hid (TRow wr w.heap.size vo o) ∧ Hid (Below w.heap.size w wr) ∧ Hid (o = gotE false nm vl (ents (T.take j)))) (fun _ vi _ => n - (intOf vi).toNat)
  case atStart => exact ⟨0, [], rfl, Nat.zero_le _, Nat.le_refl _, Lib.hid (TRow.nil _ _), Lib.hid (Below.refl _ _), Lib.hid rfl⟩
  case round =>
    obtain ⟨j, o, rfl, hj, hol, HO, HB, HM⟩ := hrel
    have R1 := HR.out.keep HB.out
    have c0 := R1.cell.c0
    by_cases hjn : j < n
    · have hjz : (j : Int) < (n : Int) := by omega
      have hj0 : (0 : Int) ≤ (j : Int) := by omega
      obtain ⟨p, q, hT, rfl, hp, x0, x1, hl⟩ := R1.at_ j hjn
      have HGJ := Lib.hid (HG.out _ (ents_mem hT))
      have HSN := Lib.hid (got_snoc false nm vl hT)
      obtain ⟨tj, htj⟩ : ∃ tj, T[j] = tj := ⟨_, rfl⟩
      rw [htj] at HGJ HSN
      have HTJ := Lib.hid (show ∀ h : j < T.length, T[j] = tj from fun _ => htj)
      obtain ⟨y, ya, yn, yc, l⟩ := tj
      have h8 : yn ≤ 8 := by rw [htj] at hl; have e : l.length = yn := hl.1; rw [← e]; exact HGJ.out.1
      have HND := Lib.hid (show (keysL l).Nodup from HGJ.out.2.2)
      have HLN := Lib.hid (show l.length = yn from by rw [htj] at hl; exact hl.1)
      have HM0 := Lib.hid (show o = gotE false nm vl (ents (T.take j)) ++ (if hitP false nm vl (l.take 0) then [y] else []) from by rw [if_neg (hit_zero false nm vl), List.append_nil, HM.out])
      clear hl R1 HM HGJ htj x0 x1 hT hp
      obtain ⟨wo, hwo⟩ : ∃ wo : World, wo = wr := ⟨_, rfl⟩
      go_wp2_with fail
      clear hwo c0
      obtain ⟨wo2, rfl⟩ : ∃ wo : World, wo = wr := ⟨_, rfl⟩
      go_loopw [9, 11] (fun vo vk wr => ∃ (k : Nat) (o : List Tx), vk = .int .i64 (k : Int) ∧ k ≤ yn ∧ o.length ≤ 8 * j + k ∧ Hid (TRow wr w.heap.size vo o) ∧ Hid (Below w.heap.size w wr) ∧ Hid (o = gotE false nm vl (ents (T.take j)) ++ (if hitP false nm vl (l.take k) then [y] else []))) (fun _ vk _ => yn - (intOf vk).toNat)
      case atStart => exact ⟨0, o, rfl, Nat.zero_le _, by omega, HO, HB, HM0⟩
      case round =>
        clear HM0 HO HB hol
        obtain ⟨k, o, rfl, hk, hol, HO, HB, HM⟩ := hrel
        have R1 := HR.out.keep HB.out
        have c0 := R1.cell.c0
        obtain ⟨p2, q2, hT, e1, hp, x0, x1, hl⟩ := R1.at_ j hjn
        obtain ⟨rfl, rfl⟩ : p = p2 ∧ q = q2 := by simpa using e1
        rw [HTJ.out hT] at x0 x1 hl
        have x0 : wr.cell? ⟨p, q + j * 2, none⟩ = some (.string (bs y)) := x0
        have x1 : wr.cell? ⟨p, q + j * 2 + 1, none⟩ = some (.slice ya yn yc) := x1
        have hl : LbAt wr ya yn yc l := hl
        by_cases hkn : k < yn
        · have hkz : (k : Int) < (yn : Int) := by omega
          have hk0 : (0 : Int) ≤ (k : Int) := by omega
          obtain ⟨pb, po, rfl, hpb, y0, y1⟩ := hl.at_ k hkn
          have hkl : k < l.length := by rw [HLN.out]; exact hkn
          have HH := Lib.hid (hit_snoc false nm vl hkl)
          have HNO := Lib.hid (fun e => hit_not false (vl := vl) (nm := nm) HND.out hkl e)
          have t1 := eq_bs (lN l k) nm
          have t2 := eq_bs (lV l k) vl
          clear hl R1 e1 hkl
          by_cases he1 : lN l k = nm
          · by_cases he2 : lV l k = vl
            · rw [decide_eq_true he1] at t1
              rw [decide_eq_true he2] at t2
              have HM2 := Lib.hid (show o ++ [y] = gotE false nm vl (ents (T.take j)) ++ (if hitP false nm vl (l.take (k + 1)) then [y] else []) from by
                rw [HM.out, if_neg (HNO.out he1), if_pos ((HH.out).2 (.inr ⟨he1, .inr he2⟩)), List.append_nil])
              clear he1 he2 HM HNO HH
              generalize bs (lN l k) = q1 at *
              generalize bs (lV l k) = q2 at *
              have B0 := (Below.refl wr.heap.size wr).alloc (Nat.le_refl _) (.cells #[.string (bs y)] 9)
              have HO2 := Lib.hid (HO.out.alloc (.cells #[.string (bs y)] 9))
              have HT2 := Lib.hid (TxAt.one wr y)
              have HB2 := Lib.hid (HB.out.trans (B0.mono HB.out.size))
              clear B0 HO HB
              generalize bs y = sp at *
              go_wp2_with (at_builtin; refine wpList_append_tx rfl _ _ rfl w.heap.size _ o rfl HO2.out _ 1 1 [y] rfl HT2.out (by omega) HB2.out.size ?_)
              intro v3 W3 O3 g3
              have B3 := TRow.bel HB2.out HB2.out.size HO2.out (Nat.le_refl _) g3
              clear HO2 HB2 HT2 g3
              go_wp2
              go_roundw
              case rel => exact ⟨k + 1, _, by go_num, by omega, by rw [List.length_append, List.length_singleton]; omega, Lib.hid O3, Lib.hid B3, HM2⟩
              case measure => simp [intOf]; omega
            · rw [decide_eq_true he1] at t1
              rw [decide_eq_false he2] at t2
              have HM2 := Lib.hid (show o = gotE false nm vl (ents (T.take j)) ++ (if hitP false nm vl (l.take (k + 1)) then [y] else []) from by
                rw [HM.out]
                congr 1
                have hh : hitP false nm vl (l.take (k + 1)) ↔ hitP false nm vl (l.take k) := (HH.out).trans ⟨fun h => h.elim id (fun h => absurd (h.2.resolve_left (by decide)) he2), .inl⟩
                by_cases hz : hitP false nm vl (l.take k)
                · rw [if_pos hz, if_pos (hh.2 hz)]
                · rw [if_neg hz, if_neg (fun h => hz (hh.1 h))])
              clear he1 he2 HM HNO HH
              generalize bs (lN l k) = q1 at *
              generalize bs (lV l k) = q2 at *
              go_wp2
              go_roundw
              case rel => exact ⟨k + 1, o, by go_num, by omega, by omega, HO, HB, HM2⟩
              case measure => simp [intOf]; omega
          · clear t2
            rw [decide_eq_false he1] at t1
            have HM2 := Lib.hid (show o = gotE false nm vl (ents (T.take j)) ++ (if hitP false nm vl (l.take (k + 1)) then [y] else []) from by
              rw [HM.out]
              congr 1
              have hh : hitP false nm vl (l.take (k + 1)) ↔ hitP false nm vl (l.take k) := (HH.out).trans ⟨fun h => h.elim id (fun h => absurd h.1 he1), .inl⟩
              by_cases hz : hitP false nm vl (l.take k)
              · rw [if_pos hz, if_pos (hh.2 hz)]
              · rw [if_neg hz, if_neg (fun h => hz (hh.1 h))])
            clear he1 HM HNO HH
            generalize bs (lN l k) = q1 at *
            generalize bs (lV l k) = q2 at *
            go_wp2
            go_roundw
            case rel => exact ⟨k + 1, o, by go_num, by omega, by omega, HO, HB, HM2⟩
            case measure => simp [intOf]; omega
        · have hkz : ¬ (k : Int) < (yn : Int) := by omega
          obtain rfl : k = yn := by omega
          have hlk : l.take k = l := List.take_of_length_le (by rw [HLN.out]; exact Nat.le_refl _)
          rw [hlk, ← HSN.out] at HM
          clear hl R1 e1
          go_wp2
          go_roundw
          case rel => exact ⟨j + 1, o, by go_num, by omega, by omega, HO, HB, HM⟩
          case measure => simp [intOf]; omega
    · have hjz : ¬ (j : Int) < (n : Int) := by omega
      obtain rfl : j = n := by omega
      rw [List.take_of_length_le (by rw [HL.out]; exact Nat.le_refl _)] at HM
      go_wp2
      go_ret
      exact ⟨_, rfl, by rw [← HM.out]; exact HO.out, HB.out⟩

end Go.Proofs.Ytpkbkemenfdadaa
