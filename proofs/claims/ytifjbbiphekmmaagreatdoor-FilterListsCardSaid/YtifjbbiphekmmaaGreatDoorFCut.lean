/-
  Contracts of strings.Cut, CutPrefix, CutSuffix and SplitN at one byte, and of filter.values.
-/
import Derived.Test.YtifjbbiphekmmaaGreatDoorFText
import Derived.Test.YtifjbbiphekmmaaGreatDoorFShelf
import Derived.Test.YtifjbbiphekmmaaGreatDoorFShelf3
import Derived.Test.YtifjbbiphekmmaaGreatDoorFMem
import Derived.Test.YtifjbbiphekmmaaGreatDoorEHas
import Derived.OwnWalk
namespace Go.Proofs.YtifjbbiphekmmaaGreatDoor
open Go.RowKit Go.Lib
set_option linter.unusedVariables false
set_option linter.unusedSimpArgs false

theorem bs_data (s : Tx) : (bs s).data.toList = s := tx_bs s
theorem cut_len {c : UInt8} {s a r : Tx} (h : cutAt c s = some (a, r)) : s.length = a.length + 1 + r.length := by
  obtain ⟨e, _⟩ := cut_some h
  rw [e]; simp; omega
theorem cut_fst {c : UInt8} {s a r : Tx} (h : cutAt c s = some (a, r)) : (bs s).extract 0 a.length = bs a := by
  obtain ⟨e, _⟩ := cut_some h
  rw [bs_ext, e]; simp
theorem cut_snd {c : UInt8} {s a r : Tx} (h : cutAt c s = some (a, r)) : (bs s).extract (a.length + 1) (bs s).size = bs r := by
  obtain ⟨e, _⟩ := cut_some h
  rw [bs_ext, bs_size, e]
  congr 1
  rw [show a ++ c :: r = (a ++ [c]) ++ r by simp, show a.length + 1 = (a ++ [c]).length by simp, List.drop_left]
  exact List.take_of_length_le (by simp; omega)

/-- What strings.Cut tells. -/
def cutV (c : UInt8) (s : Tx) : Value := match cutAt c s with
  | none => .tuple #[.string (bs s), .string ⟨#[]⟩, .bool false]
  | some p => .tuple #[.string (bs p.1), .string (bs p.2), .bool true]

set_option maxHeartbeats 1600000 in
theorem scut_any (c : UInt8) (s : Tx) (w : World) (hs : s.length ≤ 1000000) : Calls Tryz.prog 66 #[.string (bs s), .string ⟨#[c]⟩] w fun e w' => e = .returned (cutV c s) ∧ Drew w w' := by
  have HI := Lib.hid (sh_stringslite_Index_one (bs s) c w)
  rw [bs_data, index_cut] at HI
  unfold cutV
  have hz := bs_size s
  cases hc : cutAt c s with
  | none =>
    rw [hc] at HI
    clear hc
    go_enter Tryz.func66, Tryz.ntmps66
    go_wp2_with fail
    refine HI.out.mono ?_
    rintro e w' ⟨rfl, hw⟩
    subst hw
    go_wp2
    go_ret3
    exact ⟨rfl, 0, rfl⟩
  | some p =>
    obtain ⟨a, r⟩ := p
    rw [hc] at HI
    have hl := cut_len hc
    have H1 := Lib.hid (cut_fst hc)
    have H2 := Lib.hid (cut_snd hc)
    clear hc
    have c1 : (a.length : Int) ≤ ((bs s).size : Int) := by omega
    have c2 : (a.length : Int) + 1 ≤ ((bs s).size : Int) := by omega
    have c3 : (0 : Int) ≤ (a.length : Int) + 1 := by omega
    clear hz
    simp only at HI ⊢
    generalize a.length = al at *
    go_enter Tryz.func66, Tryz.ntmps66
    go_wp2_with fail
    refine HI.out.mono ?_
    rintro e w' ⟨rfl, hw⟩
    subst hw
    go_wp2_with fail
    go_quiet (fail)
    go_wp2
    go_ret3
    exact ⟨by rw [H1.out, H2.out]; rfl, _, rfl⟩
theorem cut10_any (c : UInt8) (s : Tx) (w : World) (hs : s.length ≤ 1000000) : Calls Tryz.prog 43 #[.string (bs s), .string ⟨#[c]⟩] w fun e w' => e = .returned (cutV c s) ∧ Drew w w' := by
  have HC := Lib.hid (scut_any c s w hs)
  unfold cutV at HC ⊢
  cases hc : cutAt c s with
  | none =>
    rw [hc] at HC
    clear hc
    go_enter Tryz.func43, Tryz.ntmps43
    go_wp2_with fail
    refine HC.out.mono ?_
    rintro e w' ⟨rfl, hw⟩
    go_wp2
    go_ret3
    exact ⟨rfl, hw⟩
  | some p =>
    rw [hc] at HC
    clear hc
    go_enter Tryz.func43, Tryz.ntmps43
    go_wp2_with fail
    refine HC.out.mono ?_
    rintro e w' ⟨rfl, hw⟩
    go_wp2
    go_ret3
    exact ⟨rfl, hw⟩
theorem bs_mk (l : Tx) : (⟨l.toArray⟩ : ByteArray) = bs l := rfl
theorem sufx_any (c : UInt8) (s : Tx) (w : World) (hs : s.length ≤ 1000000) :
    Calls Tryz.prog 44 #[.string (bs s), .string ⟨#[c]⟩] w fun e w' => e = .returned (.tuple #[.string (bs (if s.getLast? = some c then s.dropLast else s)), .bool (decide (s.getLast? = some c))]) ∧ w = w' := by
  refine (sh_strings_CutSuffix (bs s) ⟨#[c]⟩ w (by rw [bs_size]; omega)).mono ?_
  rintro e w' ⟨rfl, hw⟩
  rw [bs_data, show (⟨#[c]⟩ : ByteArray).data.toList = [c] from rfl, trim_suf, suffix_iff, bs_mk]
  exact ⟨rfl, hw.symm⟩
theorem prefx_any (s : Tx) (w : World) :
    Calls Tryz.prog 68 #[.string (bs s), .string ⟨#[40]⟩] w fun e w' => e = .returned (.tuple #[.string (bs (if s.head? = some 40 then s.drop 1 else s)), .bool (decide (s.head? = some 40))]) ∧ w = w' := by
  refine (sh_strings_CutPrefix (bs s) ⟨#[40]⟩ w).mono ?_
  rintro e w' ⟨rfl, hw⟩
  rw [bs_data, show (⟨#[40]⟩ : ByteArray).data.toList = [40] from rfl, trim_pre, opened_iff, bs_mk]
  exact ⟨rfl, hw.symm⟩
theorem index1 (x : ByteArray) (c : UInt8) (w : World) : Calls Tryz.prog 120 #[.string x, .string ⟨#[c]⟩] w fun e w' => e = .returned (.int .i64 (Lib.indexB x ⟨#[c]⟩)) ∧ w' = w := by
  refine (sh_strings_Index_one x c w).mono ?_
  rintro e w' ⟨rfl, hw⟩
  refine ⟨?_, hw⟩
  rw [show Lib.indexB x ⟨#[c]⟩ = Lib.indexByte x.data.toList c from Lib.index_one _ _]
theorem count1 (x : ByteArray) (c : UInt8) (w : World) : Calls Tryz.prog 119 #[.string x, .string ⟨#[c]⟩] w fun e w' => e = .returned (.int .i64 (Lib.countB x ⟨#[c]⟩)) ∧ w' = w := by
  refine (sh_strings_Count_one x c w).mono ?_
  rintro e w' ⟨rfl, hw⟩
  refine ⟨?_, hw⟩
  show _ = Ending.returned (Value.int .i64 ((Lib.count x.data.toList [c] : Nat) : Int))
  rw [Lib.count_one]
  rfl
theorem cells_at (L : List ByteArray) (N : Nat) (w : World) (i : Nat) (h : i < L.length) : (w.alloc (.cells (Lib.cellsOf L N) 9)).cell? ⟨w.heap.size, i, none⟩ = some (.string L[i]) := by
  rw [cell_of (heap_new w _)]
  show (Lib.cellsOf L N)[i]? = _
  unfold Lib.cellsOf
  rw [← Array.getElem?_toList, List.getElem?_append_left (by simpa using h), List.getElem?_map, List.getElem?_eq_getElem h]; rfl
theorem split_at (s : Tx) (k N : Nat) (w : World) (hN : (splitN10 k s).length ≤ N) (hb : N ≤ 1000000) : TxAt (w.alloc (.cells (Lib.cellsOf (Lib.splitB ⟨#[44]⟩ 0 k (bs s)) N) 9)) (some ⟨w.heap.size, 0, none⟩) (splitN10 k s).length N (splitN10 k s) := by
  refine ⟨rfl, hN, by omega, .inr ⟨w.heap.size, 0, rfl, by simp, fun i hi => ?_⟩⟩
  rw [Nat.zero_add, cells_at _ _ _ _ (by rw [splitB_bs, List.length_map]; exact hi)]
  simp only [splitB_bs, List.getElem_map]
  rw [getD_get hi]

/-- A slice's block holds texts. -/
def TyA (w : World) (a : Option Addr) : Prop := ∀ ad, a = some ad → ∃ cs f, w.heap[ad.block]? = some (.cells cs 9 f)
theorem TyA.noA (w : World) : TyA w none := fun ad e => by cases e
theorem TyA.keep {w w' : World} {a : Option Addr} (h : TyA w a) (hb : Below w.heap.size w w') : TyA w' a := fun ad e => by
  obtain ⟨cs, f, k⟩ := h ad e
  exact ⟨cs, f, (hb.block _ (heap_lt k)).trans k⟩
def NewA (w w' : World) (a : Option Addr) : Prop := (∀ ad, a = some ad → w.heap.size ≤ ad.block) ∧ TyA w' a
theorem NewA.new (w : World) (cs : Array Value) : NewA w (w.alloc (.cells cs 9)) (some ⟨w.heap.size, 0, .none⟩) := ⟨(fun ad e => by cases e; exact Nat.le_refl _), (fun ad e => by cases e; exact ⟨cs, (0, 0), heap_new w _⟩)⟩
theorem NewA.nil (w : World) : NewA w w .none := ⟨(fun ad e => by cases e), TyA.noA w⟩
/-- A slice of the texts l, in a block of its own. -/
def SplP (w : World) (l : List Tx) (e : Ending) (w' : World) : Prop := ∃ a n c, e = .returned (.slice a n c) ∧ TxAt w' a n c l ∧ Below w.heap.size w w' ∧ NewA w w' a
set_option maxHeartbeats 1600000 in
theorem splitN_any (s : Tx) (w : World) (hs : s.length ≤ 1000000) :
    Calls Tryz.prog 69 #[.string (bs s), .string ⟨#[44]⟩, .int .i64 17] w (SplP w (splitN10 (min 17 (s.length + 1) - 1) s)) := by
  have hN : (splitN10 (min 17 (s.length + 1) - 1) s).length ≤ min 17 (s.length + 1) := by rw [splitN_len]; omega
  have HC := Lib.hid (Any.strings_genSplit_core sh_lays221 (by kernel_rfl) (bs s) ⟨#[44]⟩ 0 17 (min 17 (s.length + 1)) w (by rw [bs_size]; omega) (Nat.le_refl 1) (Nat.zero_le _)
    (fun x c _ => index1 x 44 _) (count1 (bs s) 44 w) (by decide) (by decide) (by rw [if_neg (by decide), bs_size]; omega))
  have HT := Lib.hid (split_at s (min 17 (s.length + 1) - 1) (min 17 (s.length + 1)) w hN (by omega))
  have HB := Lib.hid ((Below.refl w.heap.size w).alloc (Nat.le_refl _) (.cells (Lib.cellsOf (Lib.splitB ⟨#[44]⟩ 0 (min 17 (s.length + 1) - 1) (bs s)) (min 17 (s.length + 1))) 9))
  have HNW := Lib.hid (NewA.new w (Lib.cellsOf (Lib.splitB ⟨#[44]⟩ 0 (min 17 (s.length + 1) - 1) (bs s)) (min 17 (s.length + 1))))
  have HL := Lib.hid (show (Lib.splitB ⟨#[44]⟩ 0 (min 17 (s.length + 1) - 1) (bs s)).length = (splitN10 (min 17 (s.length + 1) - 1) s).length by rw [splitB_bs, List.length_map])
  have HC : Hid (Calls Tryz.prog 99 #[.string (bs s), .string ⟨#[44]⟩, .int .i64 0, .int .i64 17] w fun e w' =>
      e = .returned (.slice (some ⟨w.heap.size, 0, none⟩) (Lib.splitB ⟨#[44]⟩ 0 (min 17 (s.length + 1) - 1) (bs s)).length (min 17 (s.length + 1))) ∧ w' = w.alloc (.cells (Lib.cellsOf (Lib.splitB ⟨#[44]⟩ 0 (min 17 (s.length + 1) - 1) (bs s)) (min 17 (s.length + 1))) 9)) := HC
  rw [HL.out] at HC
  generalize w.alloc (.cells (Lib.cellsOf (Lib.splitB ⟨#[44]⟩ 0 (min 17 (s.length + 1) - 1) (bs s)) (min 17 (s.length + 1))) 9) = W1 at *
  generalize splitN10 (min 17 (s.length + 1) - 1) s = L at *
  generalize min 17 (s.length + 1) = N at *
  obtain ⟨m, hm⟩ : ∃ m, L.length = m := ⟨_, rfl⟩
  have HM := Lib.hid hm
  rw [hm] at HC HT
  clear hm hN
  generalize bs s = b at *
  go_enter Tryz.func69, Tryz.ntmps69
  go_wp2_with fail
  refine HC.out.mono ?_
  rintro e w' ⟨rfl, hw⟩
  subst hw
  go_wp2
  go_ret
  exact ⟨_, _, _, rfl, HT.out, HB.out, HNW.out⟩
end Go.Proofs.YtifjbbiphekmmaaGreatDoor
