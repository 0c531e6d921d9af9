/-
  Contracts of the document's own answer for layer 1: Of, the first bits of bytes.
  Condition: the text has at most 300 bytes, and that many bits.
-/
import Derived.Test.YtoanifeffegkiaaRefA
namespace Go.Proofs.Ytoanifeffegkiaa
open Go.RowKit
set_option linter.unusedVariables false

theorem bitsL_snoc (s : List UInt8) (j : Nat) (h : j < s.length) : bitsL s (8 * (j + 1)) = bitsL s (8 * j) ++ bitsOf (s.getD j 0).toNat 8 := by
  have hk : (s.getD j 0).toNat < 2 ^ 8 := by have := (s.getD j 0).toNat_lt; omega
  apply List.ext_getElem
  · simp [bitsL, bitsOf_length]; omega
  · intro i h1 h2
    rw [bitsL_length] at h1
    by_cases hi : i < 8 * j
    · rw [List.getElem_append_left (by rw [bitsL_length]; exact hi)]
      simp [bitsL]
    · rw [List.getElem_append_right (by rw [bitsL_length]; omega)]
      simp only [bitsL_length]
      have hb := num_bit (bitsOf (s.getD j 0).toNat 8) 8 (bitsOf_length _ _) (i - 8 * j) (by omega)
      rw [num_bitsOf_lt hk, List.getD_eq_getElem?_getD (l := bitsOf _ _), List.getElem?_eq_getElem (by rw [bitsOf_length]; omega), Option.getD_some] at hb
      rw [← hb]
      simp only [bitsL, List.getElem_map, List.getElem_range, bitAt]
      rw [show i / 8 = j from by omega, show 7 - i % 8 = 8 - 1 - (i - 8 * j) from by omega]

def OfP (l : List Bool) (w : World) (e : Ending) (w' : World) : Prop := ∃ ad cp, e = .returned (.slice ad l.length cp) ∧ l.length ≤ cp ∧ BoolsAt w' ad l.length l ∧ Hid (∀ x, ad = some x → w.heap.size ≤ x.block) ∧ Below w.heap.size w w'

theorem slice_to (a : Option Addr) (L cap k : Nat) (h : k ≤ cap) (W : World) :
    (Instr.slice 31 (.slice a L cap) none (some (.int .i64 (k : Int))) none).run Try.prog W = .ok (.slice a k cap) W := by
  rw [run_slice_h W 31 _ _ _ (by kernel_rfl) .i64 (k : Int) (by omega) (by omega)]
  have hs : (sizeOf (Try.prog.elem 31)).run Try.prog W = .ok 1 W := by kernel_rfl
  rw [hs]
  simp only [Result.andThen, sliced, Int.toNat_natCast]
  cases a with
  | none => simp
  | some x => simp [Addr.add]

theorem owns_cells {W : World} {base : Nat} {v : Value} {e : TypeId} {n : Nat} {xs : List Value} (hown : W.ownsRow base e 1 v n xs) (hn : 0 < n) :
    ∃ g cp, v = .slice (some ⟨g, 0, none⟩) n cp ∧ (∀ j u, xs[j]? = some u → W.cell? ((⟨g, 0, none⟩ : Addr).add j) = some u) ∧ base ≤ g := by
  rcases hown.2 with ⟨_, h0⟩ | ⟨g, cp, cur, rfl, hb, hgc, _, _, hsz, htk⟩
  · omega
  · refine ⟨g, cp, rfl, fun j u hj => ?_, hb⟩
    rw [← htk] at hj
    exact Lib.cells_of_row hgc _ j u hj
theorem bitsL_take (s : List UInt8) (n m : Nat) (h : n ≤ m) : (bitsL s m).take n = bitsL s n := by
  unfold bitsL
  rw [← List.map_take, List.take_range, Nat.min_eq_left h]
theorem bools_take {W : World} {a : Option Addr} {len : Nat} {xs : List Bool} (h : BoolsAt W a len xs) (k : Nat) (hk : k ≤ len) : BoolsAt W a k (xs.take k) := by
  obtain ⟨h1, h2⟩ := h
  refine ⟨by simp; omega, ?_⟩
  rcases h2 with h0 | ⟨b, off, rfl, hb, hc⟩
  · exact .inl (by omega)
  · exact .inr ⟨b, off, rfl, hb, fun i hi => by simp at hi; simp only [List.getElem_take]; exact hc i (by omega)⟩

set_option maxRecDepth 100000 in
set_option maxHeartbeats 1000000 in
theorem of_any (s : ByteArray) (n : Nat) (w : World) (hs : s.size ≤ 300) (hn : n ≤ 8 * s.size) :
    Calls Try.prog 22 #[.string s, .int .i64 (n : Int)] w (OfP (bitsL s.data.toList n) w) := by
  have hsl : s.data.toList.length = s.size := (Lib.size_eq s).symm
  have HSL := Lib.hid hsl
  clear hsl
  go_enter Try.func22, Try.ntmps22
  go_wp2
  go_loopw [5, 6] (fun v i wr => ∃ j : Nat, j ≤ s.size ∧ i = .int .i64 (j : Int) ∧ wr.ownsRow w.heap.size 4 1 v (8 * j) (bv (bitsL s.data.toList (8 * j))) ∧ Below w.heap.size w wr) (fun _ i _ => s.size - (intOf i).toNat)
  case atStart => exact ⟨0, Nat.zero_le _, rfl, World.ownsRow_nil _ _ _ _, Below.refl _ _⟩
  case round =>
    obtain ⟨j, hj, rfl, hown, B2⟩ := hrel
    have s2 := B2.size
    by_cases hjn : j < s.size
    · have HB := Lib.hid (bitsL_snoc s.data.toList j (by rw [HSL.out]; exact hjn))
      have e2 : s.data.toList.getD j 0 = s[j] := by
        rw [List.getD_eq_getElem?_getD, Array.getElem?_toList, Array.getElem?_eq_getElem (show j < s.data.size from hjn)]; rfl
      rw [e2] at HB
      clear e2
      have hb := s[j].toNat_lt
      go_wp2_with fail
      have hbc := rbits_any s[j].toNat 8 wr (by omega) (by omega)
      rw [show ((8 : Nat) : Int) = 8 from rfl] at hbc
      refine hbc.mono ?_
      clear hbc
      rintro e W1 ⟨v, rfl, hv, b1⟩
      have hvl : (bitsOf s[j].toNat 8).length = 8 := bitsOf_length _ _
      rw [hvl] at hv
      obtain ⟨g, cp, rfl, hcells, hg⟩ := owns_cells hv (by omega)
      have hown1 := hown.kept (gb_below (row := none) b1) (by simp; exact Classical.em _)
      have B3 := bel_gbn B2 s2 (gb_below b1)
      have s3 := Nat.le_trans s2 b1.size
      have HHL := Lib.hid (show (bv (bitsOf s[j].toNat 8)).length = 8 from by rw [bv_length, hvl])
      have HCL := Lib.hid hcells
      have HBV := Lib.hid (show bv (bitsL s.data.toList (8 * (j + 1))) = bv (bitsL s.data.toList (8 * j)) ++ bv (bitsOf s[j].toNat 8) from by rw [HB.out, bv_append])
      have HON : Hid (∀ u ∈ bv (bitsOf s[j].toNat 8), u.oneCell' = true) := by
        intro u hu
        simp [bv] at hu
        rcases hu with ⟨_, rfl⟩ | ⟨_, rfl⟩ <;> rfl
      clear hvl hv hown B2 s2 b1 HB hcells
      obtain ⟨i0, hi, hz0, hz1, hz2⟩ := info_parts info_bool
      generalize bv (bitsOf s[j].toNat 8) = news at *
      go_wp2_with (at_builtin; refine wpList_append_own _ rfl _ _ 31 rfl w.heap.size 4 i0 _ 1 1 Try.underlying31 hi hz0 hz1 hz2 rfl (by decide) _ _ _ rfl hown1 ⟨g, 0, none⟩ 8 cp news rfl (by rw [HHL.out]) HCL.out HON.out (by unfold maxLen; omega) (by omega) s3 ?_)
      intro v' W5 hown5 g5 _
      have B5 := B3.grown g5 s3 (fun k hk => (hown1.lt k hk).1)
      clear hown1 g5 hi hz0 hz1 hz2 B3
      go_wp2
      go_roundw
      case rel =>
        refine ⟨j + 1, by omega, by go_num, ?_, B5⟩
        rw [HBV.out, show 8 * (j + 1) = 8 * j + 8 from by omega]
        exact hown5
      case measure => simp [intOf]; omega
    · obtain rfl : j = s.size := by omega
      have hbl : (bitsL s.data.toList (8 * s.size)).length = 8 * s.size := bitsL_length _ _
      have hown' : wr.ownsRow w.heap.size 4 1 u5 (bitsL s.data.toList (8 * s.size)).length (bv (bitsL s.data.toList (8 * s.size))) := by rw [hbl]; exact hown
      obtain ⟨ad, cp, rfl, hcp, hba, _⟩ := owns_bools hown'
      have hbk : ∀ x, ad = some x → w.heap.size ≤ x.block := by
        intro x hx
        subst hx
        exact (hown.lt x.block rfl).1
      have HBK := Lib.hid hbk
      rw [hbl] at hba hcp ⊢
      have hsl := slice_to ad (8 * s.size) cp n (by omega)
      have HBA := Lib.hid (bools_take hba n hn)
      have HLT := Lib.hid (bitsL_length s.data.toList n)
      rw [bitsL_take s.data.toList n (8 * s.size) hn] at HBA
      clear hba hown hown' hbl hbk
      generalize bitsL s.data.toList n = xs at *
      go_wp2
      go_ret
      refine ⟨ad, cp, ?_, ?_, ?_, HBK, B2⟩
      · rw [HLT.out]; rfl
      · rw [HLT.out]; omega
      · rw [HLT.out]; exact HBA.out

end Go.Proofs.Ytoanifeffegkiaa
