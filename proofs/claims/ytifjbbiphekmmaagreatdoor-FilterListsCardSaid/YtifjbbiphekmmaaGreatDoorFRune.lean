/-
  Contract of strings.IndexRune at a rune that is no ASCII, over a text of ASCII.
-/
import Derived.Test.YtifjbbiphekmmaaGreatDoorFMem
import Derived.Test.YtifjbbiphekmmaaGreatDoorFShelf
import Derived.Test.YtifjbbiphekmmaaGreatDoorEHas
import Derived.ScopeJumps
import Derived.WalkMore
import Derived.Lib.OthersKept
import Derived.Lib.DecodeN
import Derived.Lib.IndexAny
import Derived.Lib.IndexBytes
import Derived.Laws.Runes
import Derived.Laws.RangeAny
import Derived.Laws.Strings3
import Derived.Deep.LoopGhost
namespace Go.Proofs.YtifjbbiphekmmaaGreatDoor
open Go.RowKit Go.Lib
set_option linter.unusedVariables false
set_option linter.unusedSimpArgs false

theorem vrune_any (r : Int) (w : World) : Calls Tryz.prog 112 #[.int .i32 r] w fun e w' => e = .returned (.bool (validRune r)) ∧ w = w' := by
  by_cases h1 : 0 ≤ r ∧ r < 55296
  · obtain ⟨h1, h2⟩ := h1
    have hv : validRune r = true := decide_eq_true (.inl ⟨h1, h2⟩)
    rw [hv]
    go_enter Tryz.func112, Tryz.ntmps112
    go_wp2
    go_ret
    exact ⟨rfl, rfl⟩
  · by_cases h3 : 57343 < r ∧ r ≤ 1114111
    · obtain ⟨h3, h4⟩ := h3
      have hv : validRune r = true := decide_eq_true (.inr ⟨h3, h4⟩)
      rw [hv]
      have h0 : 0 ≤ r := by omega
      have h5 : ¬ r < 55296 := by omega
      go_enter Tryz.func112, Tryz.ntmps112
      go_wp2
      go_ret
      exact ⟨rfl, rfl⟩
    · have hv : validRune r = false := decide_eq_false (by rintro (h | h); exact h1 h; exact h3 h)
      rw [hv]
      have b1 : decide (0 ≤ r) = true ∧ decide (r < 55296) = false ∨ decide (0 ≤ r) = false := by
        by_cases h : 0 ≤ r
        · exact .inl ⟨decide_eq_true h, decide_eq_false (by omega)⟩
        · exact .inr (decide_eq_false h)
      have b2 : decide (57343 < r) = true ∧ decide (r ≤ 1114111) = false ∨ decide (57343 < r) = false := by
        by_cases h : 57343 < r
        · exact .inl ⟨decide_eq_true h, decide_eq_false (by omega)⟩
        · exact .inr (decide_eq_false h)
      rcases b1 with ⟨b1, b1'⟩ | b1 <;> rcases b2 with ⟨b2, b2'⟩ | b2
      all_goals
        go_enter Tryz.func112, Tryz.ntmps112
        go_wp2
        go_ret
        exact ⟨rfl, rfl⟩

/-- How much is left of what is gone over. -/
def iterL (w : World) (k N : Nat) : Nat := match w.heap[k]? with
  | some (.stringIter _ p) => N - p
  | _ => 0
theorem iterL_of {w : World} {k N p : Nat} {s : ByteArray} (h : w.heap[k]? = some (.stringIter s p)) : iterL w k N = N - p := by unfold iterL; rw [h]
/-- A text all of ASCII. -/
def AscB (s : ByteArray) : Prop := ∀ b ∈ s.data.toList, b.toNat < 128
theorem asc_at {s : ByteArray} (h : AscB s) (i : Nat) (hi : i < s.size) : (s[i]'hi).toNat < 128 := h _ (Array.getElem_mem_toList (xs := s.data) hi)

theorem enc_high {r : Int} (hv : validRune r = true) (h : 128 ≤ r) : ∃ (rs : ByteArray) (k : Nat) (hk : k < rs.size), Utf8.encode r = rs ∧ rs.size = k + 1 ∧ 1 ≤ k ∧ k ≤ 3 ∧ 128 ≤ (rs[k]'hk).toNat := by
  obtain ⟨f1, f2, f3⟩ := encode_facts r (by rw [validRune_eq]; exact hv) h
  exact ⟨_, (Utf8.encode r).size - 1, by omega, rfl, by omega, by omega, by omega, f3 (by omega)⟩
theorem indexByte_no {c : UInt8} : ∀ {l : List UInt8}, (∀ b ∈ l, b ≠ c) → Lib.indexByte l c = -1
  | [], _ => rfl
  | x :: l, h => by
    have ih := indexByte_no (l := l) (c := c) (fun b hb => h b (List.mem_cons_of_mem _ hb))
    unfold Lib.indexByte
    rw [if_neg (fun e => h x List.mem_cons_self (beq_iff_eq.1 e)), ih]
    rfl
set_option maxHeartbeats 4000000 in
set_option maxRecDepth 1000000 in
/-- strings.IndexRune over a text of ASCII: a rune that is none is not there. -/
theorem idxr_high (s : ByteArray) (r : Nat) (w : World) (ha : AscB s) (hs : 4 ≤ s.size) (hs2 : s.size ≤ 100) (hr : 128 ≤ r) (hr2 : r ≤ 2147483647) :
    Calls Tryz.prog 92 #[.string s, .int .i32 (r : Int)] w fun e w' => e = .returned (.int .i64 (-1)) ∧ Below w.heap.size w w' := by
  have h1 : ¬ (r : Int) < 128 := by omega
  have h0 : (0 : Int) ≤ (r : Int) := by omega
  have HA := Lib.hid ha
  clear ha
  by_cases he : r = 65533
  · subst he
    go_enter Tryz.func92, Tryz.ntmps92
    go_wp2
    go_loopg [5, 6] s.size (fun g _ _ wx => ∃ i : Nat, i + g = s.size ∧ Hid (wx.heap[w.heap.size]? = some (.stringIter s i)) ∧ Hid (Below w.heap.size w wx))
    case atStart => exact ⟨0, by omega, Lib.hid (heap_new w _), Lib.hid ((Below.refl _ _).alloc (Nat.le_refl _) _)⟩
    case round =>
      obtain ⟨i, hig, HI, HB⟩ := hrel
      cases gk with
      | zero =>
        obtain rfl : i = s.size := by omega
        have hnx := fun ty => run_next_end_at (P := Tryz.prog) wr w.heap.size s s.size ty HI.out (by omega)
        go_wp2
        go_ret
        exact ⟨rfl, HB.out⟩
      | succ g =>
        have hi : i < s.size := by omega
        have hx128 := asc_at HA.out i hi
        have hnx := fun ty => run_next_ascii_at (P := Tryz.prog) wr w.heap.size s i ty HI.out hi hx128
        generalize (s[i]'hi).toNat = b at *
        have HI2 := Lib.hid (iterAt_heap wr w.heap.size s i (i + 1) HI.out)
        have HB2 := Lib.hid (below_iterAt HB.out (Nat.le_refl _) s (i + 1))
        have hb : ((b : Int) == 65533) = false := beq_eq_false_iff_ne.2 (by omega)
        go_wp2
        go_roundg g
        case measure => omega
        case rel => exact ⟨i + 1, by omega, HI2, HB2⟩
  · have he1 : ((r : Int) == 65533) = false := beq_eq_false_iff_ne.2 (by omega)
    have HV := Lib.hid (vrune_any (r : Int) w)
    cases hv : validRune (r : Int)
    · rw [hv] at HV
      go_enter Tryz.func92, Tryz.ntmps92
      go_wp2_with fail
      refine HV.out.mono ?_
      rintro e w' ⟨rfl, rfl⟩
      go_wp2
      go_ret
      exact ⟨rfl, Below.refl _ _⟩
    · rw [hv] at HV
      obtain ⟨rs, k, hk, e1, hsz, hk1, hk3, hc⟩ := enc_high hv (by omega)
      have hks : k < s.size := by omega
      obtain ⟨x, hx⟩ : ∃ x : UInt8, s[k]'hks = x := ⟨_, rfl⟩
      obtain ⟨c, hcc⟩ : ∃ c : UInt8, rs[k]'hk = c := ⟨_, rfl⟩
      have hx1 : x.toNat < 128 := by rw [← hx]; exact asc_at HA.out k hks
      rw [hcc] at hc
      have hne : ((x.toNat : Int) == (c.toNat : Int)) = false := beq_eq_false_iff_ne.2 (by omega)
      have hl : (rs.size : Int) - 1 = (k : Int) := by omega
      have HI := Lib.hid (indexByte_no (l := (s.extract (k + 1) s.size).data.toList) (c := c) (fun b hb e => by have := HA.out b (mem_extract hb); rw [e] at this; omega))
      have HQ : Hid (∀ W, Calls Tryz.prog 111 #[.string (s.extract (k + 1) s.size), .int .u8 (c.toNat : Int)] W fun e w' => e = .returned (.int .i64 (-1)) ∧ W = w') := Lib.hid fun W => (sh_strings_IndexByte _ _ W).mono (by
        rintro e w' ⟨rfl, hw⟩
        rw [show ((c.toNat : Int)).toNat.toUInt8 = c by simp, HI.out]
        exact ⟨rfl, hw.symm⟩)
      have hlt : decide ((k : Int) < (s.size : Int)) = true := decide_eq_true (by omega)
      go_enter Tryz.func92, Tryz.ntmps92
      go_wp2_with fail
      refine HV.out.mono ?_
      rintro e w' ⟨rfl, rfl⟩
      go_wp2_with fail
      go_step3
      go_wp2_with fail
      go_loopg [9] 1 (fun g v wx => g = 1 ∧ v = .int .i64 (k : Int) ∧ w = wx)
      case atStart => exact ⟨rfl, rfl, rfl⟩
      case round =>
        obtain ⟨rfl, rfl, rfl⟩ := hrel
        go_wp2_with fail
        go_step3
        go_wp2_with fail
        go_quiet (fail)
        go_wp2_with fail
        obtain ⟨W1, hW1⟩ : ∃ W1, W1 = w.drewN nq := ⟨_, rfl⟩
        rw [← hW1]
        have HB := Lib.hid (show Below w.heap.size w W1 by rw [hW1]; exact Drew.bel ⟨_, rfl⟩)
        clear hW1
        go_quiet (with_reducible exact quietL (HQ.out _))
        go_wp2_with fail
        rw [Exit.noGoto_ret]
        go_wp2_with fail
        rw [Exit.noGoto_ret]
        go_ret
        exact ⟨rfl, HB.out.trans (Below.mono (Drew.bel ⟨_, rfl⟩) HB.out.size)⟩
end Go.Proofs.YtifjbbiphekmmaaGreatDoor
