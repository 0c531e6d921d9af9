/-
  Contracts of the functions of package policy on texts: great, spells, Name, Parse.
  Name and Parse ask that the package's table of names lies in memory as the program's text lays it.
-/
import Derived.Test.YtnjfnmgbmkkehaaDoorPAdd
namespace Go.Proofs.YtnjfnmgbmkkehaaDoor
open Go.RowKit
set_option linter.unusedVariables false

/-- A letter as a great one. -/
def grN (c : Nat) : Nat := if 97 ≤ c ∧ c ≤ 122 then c - 32 else c
def grU (c : UInt8) : UInt8 := UInt8.ofNat (grN c.toNat)
def upper (s : ByteArray) : ByteArray := ⟨(s.data.toList.map grU).toArray⟩
/-- A policy's name. -/
def nm (p : Int) : ByteArray :=
  if p = 1 then ⟨#[66, 76, 79, 67, 75]⟩ else if p = 2 then ⟨#[70, 73, 82, 83, 84]⟩ else if p = 3 then ⟨#[76, 65, 83, 84]⟩ else if p = 4 then ⟨#[77, 73, 78]⟩ else if p = 5 then ⟨#[77, 65, 88]⟩ else if p = 6 then ⟨#[83, 85, 77]⟩ else ⟨#[]⟩
/-- The table of names lies in memory. -/
def NamesAt (w : World) : Prop := 0 < w.heap.size ∧ ∀ i : Nat, i ≤ 6 → w.cell? ⟨0, i, none⟩ = some (.string (nm i))
theorem NamesAt.keep {w w' : World} {row : Option Nat} (h : NamesAt w) (g : w.grownBy w' row) (hr : row ≠ some 0) : NamesAt w' :=
  ⟨Nat.lt_of_lt_of_le h.1 g.size, fun i hi => by
    have e := g.block 0 h.1 (fun e => hr e.symm)
    have := h.2 i hi
    unfold World.cell? at this ⊢
    simp only [e]
    exact this⟩
theorem NamesAt.below {w w' : World} (h : NamesAt w) (b : Below w.heap.size w w') : NamesAt w' := h.keep (gb_below (row := none) b) (by simp)

set_option maxHeartbeats 400000 in
theorem great_any (c : Nat) (w : World) (hc : c < 256) :
    Calls Tryd.prog 24 #[.int .u8 (c : Int)] w fun e w' => e = .returned (.int .u8 (grN c : Int)) ∧ w = w' := by
  by_cases h : 97 ≤ c
  · by_cases h' : c ≤ 122
    · have E := Lib.hid (show grN c = c - 32 from by unfold grN; rw [if_pos ⟨h, h'⟩])
      go_enter Tryd.func24, Tryd.ntmps24
      go_wp2
      go_ret
      exact ⟨ret_int (by rw [E.out]; omega), rfl⟩
    · have E := Lib.hid (show grN c = c from by unfold grN; rw [if_neg (by omega)])
      go_enter Tryd.func24, Tryd.ntmps24
      go_wp2
      go_ret
      exact ⟨ret_int (by rw [E.out]), rfl⟩
  · have E := Lib.hid (show grN c = c from by unfold grN; rw [if_neg (by omega)])
    go_enter Tryd.func24, Tryd.ntmps24
    go_wp2
    go_ret
    exact ⟨ret_int (by rw [E.out]), rfl⟩

set_option maxHeartbeats 400000 in
theorem name_any (p : Int) (w : World) (h : NamesAt w) :
    Calls Tryd.prog 15 #[.int .i64 p] w fun e w' => e = .returned (.string (nm p)) ∧ w = w' := by
  have H := Lib.hid h
  clear h
  by_cases hp : 1 ≤ p ∧ p ≤ 6
  · obtain ⟨k, rfl⟩ := Int.eq_ofNat_of_zero_le (show 0 ≤ p by omega)
    have hk1 : 1 ≤ k := by omega
    have hk2 : k ≤ 6 := by omega
    have c := H.out.2 k hk2
    have t : decide (1 ≤ (k : Int) ∧ (k : Int) ≤ 6) = true := decide_eq_true hp
    clear hp
    go_enter Tryd.func15, Tryd.ntmps15
    go_wp2_with fail
    refine (pright_any _ _).mono ?_
    rintro e w' ⟨rfl, rfl⟩
    rw [t]
    go_wp2
    go_ret
    exact ⟨rfl, rfl⟩
  · have t : decide (1 ≤ p ∧ p ≤ 6) = false := decide_eq_false hp
    have E := Lib.hid (show nm p = ⟨#[]⟩ from by unfold nm; rw [if_neg (by omega), if_neg (by omega), if_neg (by omega), if_neg (by omega), if_neg (by omega), if_neg (by omega)])
    clear hp
    go_enter Tryd.func15, Tryd.ntmps15
    go_wp2_with fail
    refine (pright_any _ _).mono ?_
    rintro e w' ⟨rfl, rfl⟩
    rw [t]
    go_wp2
    go_ret
    exact ⟨by rw [E.out]; rfl, rfl⟩

theorem size_list (s : ByteArray) : s.data.toList.length = s.size := by rw [Array.length_toList]; rfl
theorem get_list (s : ByteArray) (i : Nat) (h : i < s.size) : s.data.toList[i]'(by rw [size_list]; exact h) = s[i] := by
  rw [Array.getElem_toList]; rfl
theorem upper_size (s : ByteArray) : (upper s).size = s.size := by
  rw [← size_list, ← size_list]; unfold upper; rw [List.length_map]
theorem upper_get (s : ByteArray) (i : Nat) (h : i < s.size) : (s.data.toList.map grU)[i]'(by rw [List.length_map, size_list]; exact h) = grU s[i] := by
  rw [List.getElem_map, get_list s i h]
theorem list_inj {a b : ByteArray} (h : a.data.toList = b.data.toList) : a = b := by
  obtain ⟨⟨a⟩⟩ := a; obtain ⟨⟨b⟩⟩ := b; simp at h; rw [h]
theorem grN_lt (c : Nat) (h : c < 256) : grN c < 256 := by unfold grN; split <;> omega
theorem grU_nat (c : UInt8) : (grU c).toNat = grN c.toNat := by
  unfold grU
  rw [UInt8.toNat_ofNat', Nat.mod_eq_of_lt (grN_lt _ c.toNat_lt)]

set_option maxHeartbeats 800000 in
theorem spells_any (s n : ByteArray) (w : World) (hs : s.size ≤ 140737488355328) (hn : n.size ≤ 140737488355328) :
    Calls Tryd.prog 23 #[.string s, .string n] w fun e w' => e = .returned (.bool (decide (upper s = n))) ∧ Drew w w' := by
  by_cases hl : s.size = n.size
  · obtain ⟨m, hm⟩ : ∃ m, s.size = m := ⟨_, rfl⟩
    have hm2 : n.size = m := by omega
    clear hl hn
    go_enter Tryd.func23, Tryd.ntmps23
    go_wp2
    go_loopw [13] (fun i wr => ∃ j : Nat, j ≤ m ∧ i = .int .i64 (j : Int) ∧ Hid ((s.data.toList.map grU).take j = n.data.toList.take j) ∧ Drew w wr) (fun i _ => m - (intOf i).toNat)
    case atStart => exact ⟨0, Nat.zero_le _, rfl, rfl, 0, rfl⟩
    case round =>
      obtain ⟨j, hj, rfl, HT, hd⟩ := hrel
      by_cases hjm : j < m
      · have h1 : j < s.size := by omega
        have h2 : j < n.size := by omega
        by_cases he : grU s[j] = n[j]
        · have tt : ((grN s[j].toNat : Int) != (n[j].toNat : Int)) = false := by
            rw [bne_eq_false_iff_eq, ← he, grU_nat]
          have HS := Lib.hid (show (s.data.toList.map grU).take (j + 1) = n.data.toList.take (j + 1) from by
            rw [List.take_succ_eq_append_getElem (by rw [List.length_map, size_list]; exact h1), List.take_succ_eq_append_getElem (by rw [size_list]; exact h2), HT.out, upper_get s j h1, get_list n j h2, he])
          clear HT he
          go_wp2
          go_quiet ((go_at_call 24; with_reducible exact quietL (great_any _ _ (UInt8.toNat_lt _))))
          go_wp2
          go_roundw
          case rel => exact ⟨j + 1, by omega, by go_num, HS, by obtain ⟨m, rfl⟩ := hd; exact ⟨m + nq, by rw [World.drewN_drewN]⟩⟩
          case measure => simp [intOf]; omega
        · have tt : ((grN s[j].toNat : Int) != (n[j].toNat : Int)) = true := by
            rw [bne_iff_ne]
            intro e
            refine he (UInt8.toNat_inj.1 ?_)
            rw [grU_nat]
            omega
          have HN := Lib.hid (show upper s ≠ n from by
            intro e
            refine he ?_
            subst e
            have e2 : (s.data.toList.map grU)[j]? = some (upper s)[j] := by
              have := get_list (upper s) j h2
              rw [← this]
              exact List.getElem?_eq_getElem _
            rw [List.getElem?_eq_getElem (by rw [List.length_map, size_list]; exact h1), upper_get s j h1] at e2
            exact Option.some.inj e2)
          clear HT he
          go_wp2
          go_quiet ((go_at_call 24; with_reducible exact quietL (great_any _ _ (UInt8.toNat_lt _))))
          go_wp2
          go_ret
          exact ⟨ret_bool (by rw [decide_eq_false HN.out]), by obtain ⟨m, rfl⟩ := hd; exact ⟨m + nq, by rw [World.drewN_drewN]⟩⟩
      · obtain rfl : j = m := by omega
        have E := Lib.hid (show upper s = n from list_inj (by
          have := HT.out
          rw [List.take_of_length_le (by rw [List.length_map, size_list]; omega), List.take_of_length_le (by rw [size_list]; omega)] at this
          exact this))
        go_wp2
        go_ret
        exact ⟨ret_bool (by rw [E.out]; simp), hd⟩
  · have E := Lib.hid (show upper s ≠ n from fun e => hl (by rw [← e, upper_size]))
    have t : ((s.size : Int) != (n.size : Int)) = true := by rw [bne_iff_ne]; omega
    go_enter Tryd.func23, Tryd.ntmps23
    go_wp2
    go_ret
    exact ⟨ret_bool (by rw [decide_eq_false E.out]), 0, rfl⟩

theorem nm_size (p : Int) : (nm p).size ≤ 5 := by
  unfold nm
  (repeat' split) <;> decide
/-- A text's policy, and OK; or none, and ErrWord. -/
def parseS (s : ByteArray) : Int × Int :=
  if upper s = nm 1 then (1, 0) else if upper s = nm 2 then (2, 0) else if upper s = nm 3 then (3, 0) else if upper s = nm 4 then (4, 0) else if upper s = nm 5 then (5, 0) else if upper s = nm 6 then (6, 0) else (0, 17)
theorem parse_hit (s : ByteArray) (j : Nat) (h1 : 1 ≤ j) (h2 : j ≤ 6) (hn : ∀ k : Nat, 1 ≤ k → k < j → upper s ≠ nm (k : Int)) (h : upper s = nm (j : Int)) : parseS s = ((j : Int), 0) := by
  unfold parseS
  have q : j = 1 ∨ j = 2 ∨ j = 3 ∨ j = 4 ∨ j = 5 ∨ j = 6 := by omega
  rcases q with rfl | rfl | rfl | rfl | rfl | rfl
  · exact if_pos h
  · exact (if_neg (hn 1 (by omega) (by omega))).trans (if_pos h)
  · exact (if_neg (hn 1 (by omega) (by omega))).trans ((if_neg (hn 2 (by omega) (by omega))).trans (if_pos h))
  · exact (if_neg (hn 1 (by omega) (by omega))).trans ((if_neg (hn 2 (by omega) (by omega))).trans ((if_neg (hn 3 (by omega) (by omega))).trans (if_pos h)))
  · exact (if_neg (hn 1 (by omega) (by omega))).trans ((if_neg (hn 2 (by omega) (by omega))).trans ((if_neg (hn 3 (by omega) (by omega))).trans ((if_neg (hn 4 (by omega) (by omega))).trans (if_pos h))))
  · exact (if_neg (hn 1 (by omega) (by omega))).trans ((if_neg (hn 2 (by omega) (by omega))).trans ((if_neg (hn 3 (by omega) (by omega))).trans ((if_neg (hn 4 (by omega) (by omega))).trans ((if_neg (hn 5 (by omega) (by omega))).trans (if_pos h)))))
theorem parse_miss (s : ByteArray) (hn : ∀ k : Nat, 1 ≤ k → k < 7 → upper s ≠ nm (k : Int)) : parseS s = (0, 17) := by
  unfold parseS
  exact (if_neg (hn 1 (by omega) (by omega))).trans ((if_neg (hn 2 (by omega) (by omega))).trans ((if_neg (hn 3 (by omega) (by omega))).trans ((if_neg (hn 4 (by omega) (by omega))).trans ((if_neg (hn 5 (by omega) (by omega))).trans (if_neg (hn 6 (by omega) (by omega)))))))

set_option maxHeartbeats 800000 in
theorem parse_any (s : ByteArray) (w : World) (h : NamesAt w) (hs : s.size ≤ 140737488355328) :
    Calls Tryd.prog 11 #[.string s] w fun e w' => e = .returned (two (parseS s)) ∧ Drew w w' := by
  have H := Lib.hid h
  clear h
  go_enter Tryd.func11, Tryd.ntmps11
  go_wp2
  go_loopw [4] (fun i wr => ∃ j : Nat, 1 ≤ j ∧ j ≤ 7 ∧ i = .int .i64 (j : Int) ∧ Hid (∀ k : Nat, 1 ≤ k → k < j → upper s ≠ nm (k : Int)) ∧ Drew w wr) (fun i _ => 7 - (intOf i).toNat)
  case atStart => exact ⟨1, Nat.le_refl _, by omega, rfl, Lib.hid (fun k h1 h2 => by omega), 0, rfl⟩
  case round =>
    obtain ⟨j, hj1, hj, rfl, HN, nn, rfl⟩ := hrel
    by_cases hj6 : j ≤ 6
    · have c : (w.drewN nn).cell? ⟨0, j, none⟩ = some (.string (nm j)) := H.out.2 j hj6
      have hd : Drew w (w.drewN nn) := ⟨nn, rfl⟩
      generalize w.drewN nn = W1 at *
      go_wp2_with fail
      refine (spells_any s (nm j) _ hs (Nat.le_trans (nm_size _) (by omega))).mono ?_
      rintro e W2 ⟨rfl, d2⟩
      have hd2 : Drew w W2 := by obtain ⟨m, rfl⟩ := hd; obtain ⟨m', rfl⟩ := d2; exact ⟨m + m', by rw [World.drewN_drewN]⟩
      clear hd d2 c
      by_cases he : upper s = nm j
      · have E := Lib.hid (parse_hit s j hj1 hj6 HN.out he)
        rw [decide_eq_true he]
        clear he
        go_wp2
        go_ret2
        exact ⟨by rw [E.out]; rfl, hd2⟩
      · have HN2 : Hid (∀ k : Nat, 1 ≤ k → k < j + 1 → upper s ≠ nm (k : Int)) := Lib.hid (fun k h1 h2 => by
          by_cases e : k = j
          · subst e; exact he
          · exact HN.out k h1 (by omega))
        rw [decide_eq_false he]
        clear he HN
        go_wp2
        go_roundw
        case rel => exact ⟨j + 1, by omega, by omega, by go_num, HN2, hd2⟩
        case measure => simp [intOf]; omega
    · obtain rfl : j = 7 := by omega
      have E := Lib.hid (parse_miss s HN.out)
      go_wp2
      go_ret2
      exact ⟨by rw [E.out]; rfl, nn, rfl⟩

end Go.Proofs.YtnjfnmgbmkkehaaDoor
