/-
  Contract of the document's Fold.
  Condition: at most 2^43 samples (the form's reach).
-/
import Derived.Test.YtpahohnpcfgegaaARVal
namespace Go.Proofs.Ytpahohnpcfgegaa
open Go.RowKit
set_option linter.unusedVariables false
set_option linter.unusedSimpArgs false

set_option maxHeartbeats 400000 in
theorem values_kind (k : Int) (a : Option Addr) (len cap : Nat) (l : List Int) (w : World) (hk : ¬ kok k) :
    Calls Try.prog 46 #[.int .i64 k, .slice a len cap] w (FoldP k l w) := by
  have E := Lib.hid (nmA_no hk)
  have E1 := Lib.hid (valK_no (k := k) l hk)
  have E2 := Lib.hid (show isK k l = false from by unfold isK; rw [decide_eq_false (show ¬ (1 ≤ k ∧ k ≤ 7) from hk)]; rfl)
  clear hk
  go_enter Try.func46, Try.ntmps46
  go_wp2_with fail
  refine (arname_any k _).mono ?_
  rintro e W1 ⟨rfl, B1⟩
  rw [E.out]
  have t5 : (ByteArray.toList ⟨#[]⟩) = [] := by rw [Lib.toList_data]
  go_wp2
  go_ret2
  exact ⟨by rw [E1.out, E2.out]; rfl, B1⟩

set_option maxHeartbeats 400000 in
theorem values_none (k : Int) (a : Option Addr) (cap : Nat) (w : World) (hk : kok k) :
    Calls Try.prog 46 #[.int .i64 k, .slice a 0 cap] w (FoldP k [] w) := by
  obtain ⟨n, hn⟩ : ∃ n, n = nmA k := ⟨_, rfl⟩
  have HN := Lib.hid hn
  have t4 : ¬ n.toList = [] := by rw [hn]; exact fun e => (nmA_empty k).1 e hk
  have t5 : n.toList.isEmpty = false := by simpa using t4
  have E1 := Lib.hid (valK_nil k)
  have E2 := Lib.hid (show isK k [] = false from by unfold isK; simp)
  clear hk hn
  go_enter Try.func46, Try.ntmps46
  go_wp2_with fail
  refine (arname_any k _).mono ?_
  rintro e W1 ⟨rfl, B1⟩
  rw [← HN.out]
  go_wp2
  go_ret2
  exact ⟨by rw [E1.out, E2.out]; rfl, B1⟩

theorem values_any (k : Int) (a : Option Addr) (len cap : Nat) (l : List Int) (w : World) (h : IntsAt w a len l) (hl : len < 4611686018427387904) :
    Calls Try.prog 46 #[.int .i64 k, .slice a len cap] w (FoldP k l w) := by
  by_cases hk : kok k
  · by_cases h0 : len = 0
    · subst h0
      have : l = [] := List.eq_nil_of_length_eq_zero h.1
      subst this
      exact values_none k a cap w hk
    · exact values_ok k a len cap l w h (by omega) hl hk
  · exact values_kind k a len cap l w hk

/-! A row of numbers of the call's own. -/
def iv (l : List Int) : List Value := l.map fun n => Value.int .i64 n
theorem iv_snoc (l : List Int) (x : Int) : iv (l ++ [x]) = iv l ++ [.int .i64 x] := by simp [iv]
theorem iv_length (l : List Int) : (iv l).length = l.length := by simp [iv]
theorem iv_one (x : Int) : ∀ u ∈ [Value.int .i64 x], u.oneCell' = true := by
  intro u hu
  simp at hu
  subst hu; rfl
theorem info_int : ∃ i : TypeInfo, Try.prog.info? 3 = some i ∧ i.zero = some (.int .i64 0) ∧ i.size = 1 ∧ i.bytes = 8 := ⟨_, rfl, rfl, rfl, rfl⟩
theorem owns_ints {W : World} {base : Nat} {v : Value} {l : List Int} {n : Nat} (hn : l.length = n) (h : ∀ x ∈ l, in64 x) (hown : W.ownsRow base 3 1 v n (iv l)) :
    ∃ ad cp, v = .slice ad n cp ∧ IntsAt W ad n l := by
  rcases hown.2 with ⟨rfl, h0⟩ | ⟨g, cp, cur, rfl, hgb, hgc, hl, _, hsz, htk⟩
  · subst h0
    exact ⟨none, 0, rfl, hn, h, .inl rfl⟩
  · refine ⟨_, cp, rfl, hn, h, .inr ⟨g, 0, rfl, heap_lt hgc, fun i hi => ?_⟩⟩
    have h1 : (iv l)[i]? = some (.int .i64 (l.getD i 0)) := by
      unfold iv
      rw [List.getElem?_map, List.getElem?_eq_getElem (by omega), List.getD_eq_getElem?_getD, List.getElem?_eq_getElem (by omega)]; rfl
    rw [← htk, List.getElem?_take, if_pos (by omega), Array.getElem?_toList] at h1
    rw [cell_of hgc, Nat.zero_add]
    exact h1

set_option maxRecDepth 100000 in
set_option maxHeartbeats 1000000 in
theorem rfold_any (k : Int) (a : Option Addr) (len cap : Nat) (z : List (Int × Int)) (w : World) (h : SampAt w a len cap z) (hl : len ≤ 8796093022208) :
    Calls Try.prog 36 #[.int .i64 k, .slice a len cap] w (FoldP k (valsOf z) w) := by
  have HL := Lib.hid h.1
  have HA := Lib.hid h.2.2.2.1
  have b1 := h.2.2.1
  have HS := Lib.hid h
  clear h
  go_enter Try.func36, Try.ntmps36
  go_wp2
  go_loopw [6, 7] (fun v i wr => ∃ j : Nat, j ≤ len ∧ i = .int .i64 (j : Int) ∧ wr.ownsRow w.heap.size 3 1 v j (iv ((valsOf z).take j)) ∧ Below w.heap.size w wr) (fun _ i _ => len - (intOf i).toNat)
  case atStart => exact ⟨0, Nat.zero_le _, rfl, World.ownsRow_nil _ _ _ _, Below.refl _ _⟩
  case round =>
    obtain ⟨j, hj, rfl, hown, B⟩ := hrel
    by_cases hjn : j < len
    · obtain ⟨p, o, rfl, hp, x0, x1⟩ := (HS.out.keep B).at_ j hjn
      have HT := Lib.hid (show iv ((valsOf z).take (j + 1)) = iv ((valsOf z).take j) ++ [.int .i64 (vOf z j)] from by rw [vOf_vals z j (by rw [HL.out]; exact hjn), iv_snoc])
      generalize vOf z j = v at *
      obtain ⟨i0, hi, hz0, hz1, hz2⟩ := info_int
      have s2 := B.size
      clear x0
      go_wp2_with (at_builtin; refine wpList_append_own _ rfl _ _ 23 rfl w.heap.size 3 i0 _ 1 8 Try.underlying23 hi hz0 hz1 hz2 rfl (by decide) _ _ _ rfl (hown.alloc _) ⟨wr.heap.size, 0, none⟩ 1 1 [.int .i64 v] rfl rfl (one_cell _ _ _) (iv_one _) (by unfold maxLen; omega) (by omega) (by simp; omega) ?_)
      intro v' W5 hown5 g5 _
      have B5 := (B.alloc s2 (.cells #[.int .i64 v] 3)).grown g5 (by simp; omega) (fun k hk => (hown.lt k hk).1)
      clear hown g5 hi hz0 hz1 hz2 x1
      go_wp2
      go_roundw
      case rel =>
        refine ⟨j + 1, by omega, by go_num, ?_, B5⟩
        rw [HT.out]
        exact hown5
      case measure => simp [intOf]; omega
    · obtain rfl : j = len := by omega
      rw [List.take_of_length_le (by rw [valsOf_len, HL.out]; exact Nat.le_refl _)] at hown
      obtain ⟨ad, cp, rfl, hi⟩ := owns_ints (by rw [valsOf_len, HL.out]) (vals64 HA.out) hown
      clear hown
      go_wp2_with fail
      refine (values_any k ad j cp _ _ hi (by omega)).mono ?_
      rintro e W2 ⟨rfl, b2⟩
      have B2 := bel_gbn B B.size (gb_below b2)
      obtain ⟨x, hx⟩ : ∃ x, valK k (valsOf z) = x := ⟨_, rfl⟩
      obtain ⟨y, hy⟩ : ∃ y, isK k (valsOf z) = y := ⟨_, rfl⟩
      have HX := Lib.hid hx
      have HY := Lib.hid hy
      rw [hx, hy]
      clear hx hy hi b2 B
      unfold tell
      go_wp2
      go_ret2
      exact ⟨by rw [HX.out, HY.out]; rfl, B2⟩

end Go.Proofs.Ytpahohnpcfgegaa
