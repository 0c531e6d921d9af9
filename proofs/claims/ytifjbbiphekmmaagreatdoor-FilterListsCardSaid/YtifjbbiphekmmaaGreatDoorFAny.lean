/-
  Contracts of strings.IndexAny and strings.ContainsAny at any text, where the bytes asked for are = ! ( ) and the comma.
-/
import Derived.Test.YtifjbbiphekmmaaGreatDoorFRune
import Derived.ScopeJumps
import Derived.Lib.OthersKept
import Derived.Lib.DecodeN
import Derived.Lib.IndexAny
import Derived.Lib.IndexBytes
import Derived.Laws.Runes
import Derived.Laws.RangeAny
import Derived.Laws.Strings3
import Derived.Deep.LoopGhost
namespace Go.Proofs.YtifjbbiphekmmaaGreatDoor
open Go.RowKit Go.Lib
set_option linter.unusedVariables false
set_option linter.unusedSimpArgs false

theorem decodeN_span (n b0 b1 b2 b3 : Nat) (h0 : 128 ≤ b0) (hn : 1 ≤ n) :
    1 ≤ (decodeN n b0 b1 b2 b3).2 ∧ (decodeN n b0 b1 b2 b3).2 ≤ n ∧ (decodeN n b0 b1 b2 b3).2 ≤ 4 ∧ (1 < (decodeN n b0 b1 b2 b3).2 → 128 ≤ b1) ∧ (2 < (decodeN n b0 b1 b2 b3).2 → 128 ≤ b2) ∧ (3 < (decodeN n b0 b1 b2 b3).2 → 128 ≤ b3) := by
  unfold decodeN
  repeat' split
  all_goals (refine ⟨?_, ?_, ?_, ?_, ?_, ?_⟩ <;> first | omega | (show _ ≤ _; simp only []; omega) | (intro h; simp only [] at h; omega))
/-- What is decoded at a byte that is no ASCII: all its bytes are none. -/
theorem decode_span (s : ByteArray) (p : Nat) (hp : p < s.size) (h : 128 ≤ (s[p]'hp).toNat) : 1 ≤ (Utf8.decode s p).2 ∧ p + (Utf8.decode s p).2 ≤ s.size ∧ ∀ k, k < (Utf8.decode s p).2 → 128 ≤ (s.get! (p + k)).toNat := by
  have h0 : 128 ≤ (s.get! p).toNat := by rw [← get_at s p hp] at h; exact h
  have e := decode_at s p
  obtain ⟨a1, a2, a3, a4, a5, a6⟩ := decodeN_span (s.size - p) (s.get! p).toNat (s.get! (p + 1)).toNat (s.get! (p + 2)).toNat (s.get! (p + 3)).toNat h0 (by omega)
  rw [← e] at a1 a2 a3 a4 a5 a6
  refine ⟨a1, by omega, fun k hk => ?_⟩
  match k, hk with
  | 0, _ => exact h0
  | 1, hk => exact a4 hk
  | 2, hk => exact a5 hk
  | 3, hk => exact a6 hk
  | k + 4, hk => omega
theorem noany_span {s chars : ByteArray} {i d : Nat} (hc : AscB chars) (h : Lib.NoAny s.data.toList chars.data.toList i) (hd : i + d ≤ s.size) (hs : ∀ k, k < d → 128 ≤ (s.get! (i + k)).toNat) : Lib.NoAny s.data.toList chars.data.toList (i + d) := fun j b hj hb => by
  by_cases e : j < i
  · exact h j b e hb
  · obtain ⟨k, rfl⟩ : ∃ k, j = i + k := ⟨j - i, by omega⟩
    have h2 := hs k (by omega)
    have hlt : i + k < s.size := by omega
    have e2 : s.get! (i + k) = s[i + k]'hlt := get_at s (i + k) hlt
    have e3 := Lib.data_getElem? s (i + k) hlt
    rw [hb] at e3
    rw [e2, ← Option.some.inj e3] at h2
    cases hq : chars.data.toList.contains b with
    | false => rfl
    | true =>
      have := hc b (by simpa using hq)
      omega
set_option maxHeartbeats 8000000 in
set_option maxRecDepth 1000000 in
/-- strings.IndexAny over few bytes of any kind; the bytes asked for are ASCII. -/
theorem idxany_short (s chars : ByteArray) (w : World) (ha : AscB chars) (h4 : 4 ≤ chars.size) (h100 : chars.size ≤ 100) (h8 : s.size ≤ 8) :
    Calls Tryz.prog 64 #[.string s, .string chars] w fun e w' => e = .returned (.int .i64 (Lib.indexAny s.data.toList chars.data.toList)) ∧ Below w.heap.size w w' := by
  have HC := Lib.hid ha
  clear ha
  have hemp : chars.toList.isEmpty = false := by
    rw [Lib.toList_data]
    cases h : chars.data.toList with
    | nil => have := Lib.size_eq chars; rw [h, List.length_nil] at this; omega
    | cons _ _ => rfl
  have hn1 : ((chars.size : Int) == 1) = false := beq_eq_false_iff_ne.2 (by omega)
  have h8z : decide ((8 : Int) < (s.size : Int)) = false := decide_eq_false (by omega)
  go_enter Tryz.func64, Tryz.ntmps64
  go_wp2_with fail
  refine (sh_strings_shouldUseASCIISet _ _).mono ?_
  rintro e w' ⟨rfl, hw⟩
  subst hw
  rw [h8z]
  go_wp2_with fail
  go_loopg [9, 10] s.size (fun g _ _ wx => ∃ i : Nat, i + g = s.size ∧ Hid (wx.heap[w'.heap.size]? = some (.stringIter s i)) ∧ Hid (Below w'.heap.size w' wx) ∧ Hid (Lib.NoAny s.data.toList chars.data.toList i))
  case atStart => exact ⟨0, by omega, Lib.hid (heap_new w' _), Lib.hid ((Below.refl _ _).alloc (Nat.le_refl _) _), Lib.hid (Lib.NoAny.zero _ _)⟩
  case round =>
    obtain ⟨i, hig, HI, HB, HN⟩ := hrel
    cases gk with
    | zero =>
      obtain rfl : i = s.size := by omega
      have hnx := fun ty => run_next_end_at (P := Tryz.prog) wr w'.heap.size s s.size ty HI.out (by omega)
      go_wp2
      go_ret
      exact ⟨by rw [Lib.indexAny_none (by rw [← Lib.size_eq]; exact HN.out)]; rfl, HB.out⟩
    | succ g =>
      have hi : i < s.size := by omega
      obtain ⟨x, hx⟩ : ∃ x : UInt8, s[i]'hi = x := ⟨_, rfl⟩
      have HX := Lib.hid (show s.data.toList[i]? = some x by rw [← hx]; exact Lib.data_getElem? s i hi)
      have hsz : w'.heap.size ≤ wr.heap.size := HB.out.size
      by_cases hx128 : x.toNat < 128
      · have hnx := fun ty => run_next_ascii_at (P := Tryz.prog) wr w'.heap.size s i ty HI.out hi (by rw [hx]; exact hx128)
        rw [hx] at hnx
        have HI2 := Lib.hid (iterAt_heap wr w'.heap.size s i (i + 1) HI.out)
        have HB2 := Lib.hid (below_iterAt HB.out (Nat.le_refl _) s (i + 1))
        clear hx
        have hcon := Lib.contains_iff_indexByte chars.data.toList x
        have hback : ((x.toNat : Int)).toNat.toUInt8 = x := by simp
        cases hin : chars.data.toList.contains x
        · rw [hin] at hcon
          have hlt : ¬ ((0 : Int) ≤ Lib.indexByte chars.data.toList x) := of_decide_eq_false hcon.symm
          have HN2 := Lib.hid (HN.out.succ HX.out hin)
          clear hcon
          go_wp2_with fail
          refine (sh_strings_IndexRune_ascii _ _ _ (by omega) (by omega)).mono ?_
          rintro e w1 ⟨rfl, hw⟩
          subst hw
          rw [hback]
          go_wp2
          go_roundg g
          case measure => omega
          case rel => exact ⟨i + 1, by omega, HI2, HB2, HN2⟩
        · rw [hin] at hcon
          have hge : (0 : Int) ≤ Lib.indexByte chars.data.toList x := of_decide_eq_true hcon.symm
          have HR := Lib.hid (Lib.indexAny_hit HN.out HX.out hin)
          clear hcon
          go_wp2_with fail
          refine (sh_strings_IndexRune_ascii _ _ _ (by omega) (by omega)).mono ?_
          rintro e w1 ⟨rfl, hw⟩
          subst hw
          rw [hback]
          go_wp2
          go_ret
          exact ⟨by rw [HR.out]; rfl, HB2.out⟩
      · obtain ⟨d1, d2, d3⟩ := decode_span s i hi (by rw [hx]; omega)
        have d4 := (decode_high s i hi (by rw [hx]; omega)).1
        have d5 := decode_le s i
        have hnx := fun ty => run_next_any_at (P := Tryz.prog) wr w'.heap.size s i ty HI.out hi
        have HN2 := Lib.hid (noany_span HC.out HN.out d2 d3)
        clear d3 hx
        generalize (Utf8.decode s i).1 = r at *
        generalize (Utf8.decode s i).2 = d at *
        have HI2 := Lib.hid (iterAt_heap wr w'.heap.size s i (i + d) HI.out)
        have HB2 := Lib.hid (below_iterAt HB.out (Nat.le_refl _) s (i + d))
        have hs2 := iterAt_size wr w'.heap.size s (i + d)
        go_wp2_with fail
        refine (idxr_high chars r _ HC.out h4 h100 d4 d5).mono ?_
        rintro e w1 ⟨rfl, hb⟩
        have HI3 := Lib.hid ((hb.block _ (show w'.heap.size < _ by rw [hs2]; exact heap_lt HI.out)).trans HI2.out)
        have HB3 := Lib.hid (HB2.out.trans (hb.mono HB2.out.size))
        clear hb
        go_wp2
        go_roundg (s.size - (i + d))
        case measure => omega
        case rel => exact ⟨i + d, by omega, HI3, HB3, HN2⟩

set_option maxRecDepth 1000000 in
theorem idxany_any (s chars : ByteArray) (w : World) (ha : AscB chars) (h4 : 4 ≤ chars.size) (h100 : chars.size ≤ 100) (hs : s.size ≤ 1000000) :
    Calls Tryz.prog 64 #[.string s, .string chars] w fun e w' => e = .returned (.int .i64 (Lib.indexAny s.data.toList chars.data.toList)) ∧ Below w.heap.size w w' := by
  by_cases h8 : s.size ≤ 8
  · exact idxany_short s chars w ha h4 h100 h8
  · refine (sh_strings_IndexAny_long (fun w => Tryz.zeroValue128 w) s chars w (by omega) (by omega) (by omega) (by omega) (fun j b hb => ha b (List.mem_of_getElem? hb))).mono ?_
    rintro e w' ⟨rfl, rfl⟩
    exact ⟨rfl, ((Below.refl _ _).alloc (Nat.le_refl _) _).alloc (by rw [World.alloc]; simp) _⟩

theorem cany_any (s chars : ByteArray) (w : World) (ha : AscB chars) (h4 : 4 ≤ chars.size) (h100 : chars.size ≤ 100) (hs : s.size ≤ 1000000) :
    Calls Tryz.prog 37 #[.string s, .string chars] w fun e w' => e = .returned (.bool (Lib.containsAny s.data.toList chars.data.toList)) ∧ Below w.heap.size w w' := by
  unfold Lib.containsAny
  have HC := Lib.hid (idxany_any s chars w ha h4 h100 hs)
  clear ha
  generalize Lib.indexAny s.data.toList chars.data.toList = r at *
  go_enter Tryz.func37, Tryz.ntmps37
  go_wp2_with fail
  refine HC.out.mono ?_
  rintro e w' ⟨rfl, hb⟩
  go_wp2
  go_ret
  exact ⟨rfl, hb⟩
end Go.Proofs.YtifjbbiphekmmaaGreatDoor
