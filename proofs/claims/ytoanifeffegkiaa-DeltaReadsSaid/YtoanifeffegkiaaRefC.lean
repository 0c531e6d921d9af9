/-
  Contract of the document's own answer for layer 1: Bytes, the bytes that have bits.
  Condition: at most 2^20 bits.
-/
import Derived.Test.YtoanifeffegkiaaRefB
namespace Go.Proofs.Ytoanifeffegkiaa
open Go.RowKit
set_option linter.unusedVariables false

/-- The bits of byte j that there are. -/
def some8 (xs : List Bool) (j : Nat) : List Bool := (xs.drop (8 * j)).take 8
theorem some8_len (xs : List Bool) (j : Nat) : (some8 xs j).length = min 8 (xs.length - 8 * j) := by simp [some8]
theorem some8_eight (xs : List Bool) (j : Nat) : some8 xs j ++ List.replicate (8 - (some8 xs j).length) false = eight xs j := by
  apply List.ext_getElem
  · rw [eight_length, List.length_append, List.length_replicate, some8_len]; omega
  · intro i h1 h2
    rw [eight_length] at h2
    simp only [eight, List.getElem_map, List.getElem_range, List.getD_eq_getElem?_getD]
    by_cases hi : i < (some8 xs j).length
    · rw [List.getElem_append_left hi]
      have hi' := hi
      rw [some8_len] at hi'
      simp only [some8, List.getElem_take, List.getElem_drop]
      rw [List.getElem?_eq_getElem (by omega)]; rfl
    · rw [List.getElem_append_right (by omega)]
      rw [some8_len] at hi
      rw [List.getElem?_eq_none (by omega)]
      simp

theorem bv_one (l : List Bool) : ∀ u ∈ bv l, u.oneCell' = true := by
  intro u hu
  simp [bv] at hu
  rcases hu with ⟨_, rfl⟩ | ⟨_, rfl⟩ <;> rfl
theorem some8_cells {W : World} {b off len : Nat} {xs : List Bool} (h : BoolsAt W (some ⟨b, off, none⟩) len xs) (j : Nat) (hj : 8 * j < len) (q : Nat) (u : Value) (hq : (bv (some8 xs j))[q]? = some u) :
    W.cell? ((⟨b, off + 8 * j, none⟩ : Addr).add q) = some u := by
  obtain ⟨h1, h2⟩ := h
  rcases h2 with h0 | ⟨b', off', e, hlt, hc⟩
  · omega
  · simp only [Option.some.injEq, Addr.mk.injEq] at e
    obtain ⟨rfl, rfl, _⟩ := e
    have hl : q < (some8 xs j).length := by
      have := (List.getElem?_eq_some_iff.1 hq).1
      rwa [bv_length] at this
    have hl' := hl
    rw [some8_len] at hl'
    have hx : u = .bool xs[8 * j + q] := by
      have e1 : (bv (some8 xs j))[q]? = some (.bool (some8 xs j)[q]) := by simp [bv, List.getElem?_eq_getElem hl]
      rw [e1] at hq
      simp only [Option.some.injEq] at hq
      rw [← hq]
      simp [some8]
    have ha : (⟨b, off + 8 * j, none⟩ : Addr).add q = ⟨b, off + (8 * j + q), none⟩ := by
      unfold Addr.add
      split
      · simp_all
      · simp; omega
    rw [ha, hx]
    exact hc (8 * j + q) (by omega)
theorem slice_at (b off len cap k m : Nat) (lo hi : Int) (hlo : lo = (k : Int)) (hhi : hi = (k : Int) + (m : Int)) (h1 : k + m ≤ cap) (h2 : k < cap) (W : World) :
    (Instr.slice 31 (.slice (some ⟨b, off, none⟩) len cap) (some (.int .i64 lo)) (some (.int .i64 hi)) none).run Try.prog W = .ok (.slice (some ⟨b, off + k, none⟩) m (cap - k)) W := by
  rw [run_slice_lh W 31 _ _ _ (by kernel_rfl) .i64 .i64 lo hi (by omega) (by omega) (by omega)]
  have hs : (sizeOf (Try.prog.elem 31)).run Try.prog W = .ok 1 W := by kernel_rfl
  rw [hs]
  simp only [Result.andThen, sliced]
  rw [show lo.toNat = k from by omega, show hi.toNat - k = m from by omega, if_neg (by omega)]
  congr 2
  simp [Addr.add]

theorem pack_take (xs : List Bool) (j : Nat) (h : 8 * j < xs.length) : (packL xs).take (j + 1) = (packL xs).take j ++ [UInt8.ofNat (byteAt xs j)] := by
  have hj : j < (packL xs).length := by rw [packL_length]; omega
  rw [List.take_succ_eq_append_getElem hj]
  simp [packL]
theorem cat_one (l : List UInt8) (y : UInt8) : ((⟨l.toArray⟩ : ByteArray) ++ (⟨#[y]⟩ : ByteArray)) = ⟨(l ++ [y]).toArray⟩ := by
  apply ByteArray.ext
  simp
def lenOf : Value → Nat
  | .slice _ n _ => n
  | _ => 0
theorem owns_slice' {W : World} {base : Nat} {v : Value} {e : TypeId} {k n : Nat} {cs : List Value} (hown : W.ownsRow base e k v n cs) : ∃ ad cp, v = .slice ad n cp := by
  rcases hown.2 with ⟨rfl, rfl⟩ | ⟨g, cp, cur, rfl, _⟩
  · exact ⟨none, 0, rfl⟩
  · exact ⟨_, cp, rfl⟩
theorem one_cell (W : World) (v : Value) (t : TypeId) : ∀ j u, [v][j]? = some u → (W.alloc (.cells #[v] t)).cell? ((⟨W.heap.size, 0, none⟩ : Addr).add j) = some u := by
  intro j u hj
  match j, hj with
  | 0, hj => simp at hj; subst hj; rw [show ((⟨W.heap.size, 0, none⟩ : Addr).add 0) = ⟨W.heap.size, 0, none⟩ from rfl, cell_of (heap_new W _)]; rfl

set_option maxRecDepth 100000 in
set_option maxHeartbeats 1000000 in
theorem rbytes_any (a : Option Addr) (len cap : Nat) (xs : List Bool) (w : World) (h : BoolsAt w a len xs) (hl : len ≤ 1048576) (hc : len ≤ cap) :
    Calls Try.prog 16 #[.slice a len cap] w fun e w' => e = .returned (.string ⟨(packL xs).toArray⟩) ∧ Below w.heap.size w w' := by
  have hxl := h.1
  have HXL := Lib.hid hxl
  have H := Lib.hid h
  have HPL := Lib.hid (show (packL xs).length = (len + 7) / 8 from by rw [packL_length, hxl])
  clear h hxl
  go_enter Try.func16, Try.ntmps16
  go_wp2
  go_loopw [3, 4] (fun s i wr => ∃ j : Nat, 8 * j < len + 8 ∧ i = .int .i64 (8 * (j : Int)) ∧ s = .string ⟨((packL xs).take j).toArray⟩ ∧ Below w.heap.size w wr) (fun _ i _ => len + 8 - (intOf i).toNat)
  case atStart => exact ⟨0, by omega, rfl, rfl, Below.refl _ _⟩
  case round =>
    obtain ⟨j, hj, rfl, rfl, B2⟩ := hrel
    have s2 := B2.size
    by_cases hjl : 8 * j < len
    · have hb2 := H.out.keep B2
      have hjl' : 8 * (j : Int) < (len : Int) := by omega
      obtain ⟨i0, hi, hz0, hz1, hz2⟩ := info_parts info_bool
      obtain ⟨b, off, rfl, hlt, hcl⟩ : ∃ b off, a = some ⟨b, off, none⟩ ∧ b < w.heap.size ∧ ∀ i (h : i < xs.length), w.cell? ⟨b, off + i, none⟩ = some (.bool xs[i]) := by
        rcases H.out.2 with h0 | h1
        · omega
        · exact h1
      clear hcl
      obtain ⟨m, hm⟩ : ∃ m, (some8 xs j).length = m := ⟨_, rfl⟩
      have HM := Lib.hid hm
      have hm' : m = min 8 (len - 8 * j) := by rw [← hm, some8_len, HXL.out]
      by_cases h8 : 8 * j + 8 < len
      · have hsl := slice_at b off len cap (8 * j) m (8 * (j : Int)) (8 * (j : Int) + 8) (by omega) (by omega) (by omega) (by omega)
        clear hm hm'
        have hown2 := World.ownsRow_made (base := w.heap.size) (e := 4) (size := 1) wr #[] 0 s2 (by unfold maxLen; omega) (by simp)
        have hnews : Hid (∀ q u, (bv (some8 xs j))[q]? = some u → (wr.alloc (.cells #[] 4)).cell? ((⟨b, off + 8 * j, none⟩ : Addr).add q) = some u) := by
          intro q u hq
          have hb3 : BoolsAt (wr.alloc (.cells #[] 4)) (some ⟨b, off, none⟩) len xs := hb2.keep ((Below.refl _ _).alloc (Nat.le_refl _) _)
          exact some8_cells hb3 j hjl q u hq
        have HML := Lib.hid (show (bv (some8 xs j)).length = m * 1 from by rw [bv_length, HM.out, Nat.mul_one])
        have HON : Hid (∀ u ∈ bv (some8 xs j), u.oneCell' = true) := bv_one _
        have hm8 : m ≤ 8 := by have := HM.out; rw [some8_len] at this; omega
        have hm1 : 1 ≤ m := by have := HM.out; rw [some8_len, HXL.out] at this; omega
        have B3 := B2.alloc s2 (.cells #[] 4)
        have s3 : w.heap.size ≤ (wr.alloc (.cells #[] 4)).heap.size := by simp; omega
        obtain ⟨news, hnw⟩ : ∃ news, news = bv (some8 xs j) := ⟨_, rfl⟩
        rw [← hnw] at hnews HML HON
        have HNW := Lib.hid hnw
        clear hnw hb2
        go_wp2_with (at_builtin; refine wpList_append_own _ rfl _ _ 31 rfl w.heap.size 4 i0 _ 1 1 Try.underlying31 hi hz0 hz1 hz2 rfl (by decide) _ _ _ rfl hown2 ⟨b, off + 8 * j, none⟩ m (cap - 8 * j) news rfl HML.out hnews.out HON.out (by unfold maxLen; omega) (by omega) s3 ?_)
        intro v4 W4 hown4 g4 _
        have B4 := B3.grown g4 s3 (fun k hk => (hown2.lt k hk).1)
        have s4 := Nat.le_trans s3 g4.size
        clear hown2 g4 B3 s3 hnews HML HON hsl
        go_wp2_with fail
        go_loopw [5] (fun v wr => ∃ q : Nat, m ≤ q ∧ q ≤ 8 ∧ wr.ownsRow w.heap.size 4 1 v q (news ++ List.replicate (q - m) (.bool false)) ∧ Below w.heap.size w wr) (fun v _ => 8 - lenOf v)
        case atStart => exact ⟨m, Nat.le_refl _, hm8, by rw [Nat.sub_self]; simpa using hown4, B4⟩
        case round =>
          obtain ⟨q, hq1, hq2, hown5, B5⟩ := hrel
          have s5 := B5.size
          obtain ⟨ad, cp, rfl⟩ := owns_slice' hown5
          by_cases hq8 : q < 8
          · go_wp2_with (at_builtin; refine wpList_append_own _ rfl _ _ 31 rfl w.heap.size 4 i0 _ 1 1 Try.underlying31 hi hz0 hz1 hz2 rfl (by decide) _ _ _ rfl (hown5.alloc _) ⟨wr.heap.size, 0, none⟩ 1 1 [.bool false] rfl rfl (one_cell _ _ _) (by simp; rfl) (by unfold maxLen; omega) (by omega) (by simp; omega) ?_)
            intro v6 W6 hown6 g6 _
            have B6 := (B5.alloc s5 (.cells #[.bool false] 4)).grown g6 (by simp; omega) (fun k hk => (hown5.lt k hk).1)
            obtain ⟨ad6, cp6, rfl⟩ := owns_slice' hown6
            clear hown5 g6
            go_wp2
            go_roundw
            case rel =>
              refine ⟨q + 1, by omega, by omega, ?_, B6⟩
              rw [show q + 1 - m = q - m + 1 from by omega, List.replicate_succ']
              exact hown6
            case measure => simp [lenOf]; omega
          · obtain rfl : q = 8 := by omega
            have HE : Hid (news ++ List.replicate (8 - m) (Value.bool false) = bv (eight xs j)) := by
              show news ++ List.replicate (8 - m) (Value.bool false) = bv (eight xs j)
              rw [← some8_eight, HM.out, bv_append, HNW.out]; simp [bv]
            have hown6 : wr.ownsRow w.heap.size 4 1 (.slice ad 8 cp) (eight xs j).length (bv (eight xs j)) := by rw [eight_length, ← HE.out]; exact hown5
            obtain ⟨ad', cp', e', _, hba, _⟩ := owns_bools hown6
            rw [eight_length] at hba e'
            simp only [Value.slice.injEq] at e'
            obtain ⟨rfl, _, rfl⟩ := e'
            have HBA := Lib.hid hba
            have hby := byteAt_lt xs j
            have HBY := Lib.hid (show byteAt xs j = num (eight xs j) from rfl)
            have HTK := Lib.hid (pack_take xs j (by rw [HXL.out]; exact hjl))
            clear hown5 hown6 hba
            go_wp2_with fail
            refine (number_any ad 8 cp _ _ HBA.out (by omega)).mono ?_
            rintro e w' ⟨rfl, rfl⟩
            rw [← HBY.out]
            generalize byteAt xs j = y at *
            have hcv := conv_row wr.heap.size 1 [y] (wr.alloc (.cells #[.int .u8 (y : Int)] 5)) (heap_new wr _)
            rw [show (List.map UInt8.ofNat [y]).toArray = #[UInt8.ofNat y] from rfl] at hcv
            have hcv' : (convert 73 9 (.slice (some ⟨wr.heap.size, 0, none⟩) 1 1)).run Try.prog (wr.alloc (.cells #[.int .u8 (y : Int)] 5)) = .ok (.string ⟨#[UInt8.ofNat y]⟩) (wr.alloc (.cells #[.int .u8 (y : Int)] 5)) := hcv
            have B7 := B5.alloc s5 (.cells #[.int .u8 (y : Int)] 5)
            clear hcv
            go_wp2
            go_roundw
            case rel =>
              refine ⟨j + 1, by omega, by go_num, ?_, B7⟩
              rw [HTK.out, cat_one]
            case measure => simp [intOf]; omega
      · have hsl := slice_at b off len cap (8 * j) m (8 * (j : Int)) (len : Int) (by omega) (by omega) (by omega) (by omega)
        clear hm hm'
        have hown2 := World.ownsRow_made (base := w.heap.size) (e := 4) (size := 1) wr #[] 0 s2 (by unfold maxLen; omega) (by simp)
        have hnews : Hid (∀ q u, (bv (some8 xs j))[q]? = some u → (wr.alloc (.cells #[] 4)).cell? ((⟨b, off + 8 * j, none⟩ : Addr).add q) = some u) := by
          intro q u hq
          have hb3 : BoolsAt (wr.alloc (.cells #[] 4)) (some ⟨b, off, none⟩) len xs := hb2.keep ((Below.refl _ _).alloc (Nat.le_refl _) _)
          exact some8_cells hb3 j hjl q u hq
        have HML := Lib.hid (show (bv (some8 xs j)).length = m * 1 from by rw [bv_length, HM.out, Nat.mul_one])
        have HON : Hid (∀ u ∈ bv (some8 xs j), u.oneCell' = true) := bv_one _
        have hm8 : m ≤ 8 := by have := HM.out; rw [some8_len] at this; omega
        have hm1 : 1 ≤ m := by have := HM.out; rw [some8_len, HXL.out] at this; omega
        have B3 := B2.alloc s2 (.cells #[] 4)
        have s3 : w.heap.size ≤ (wr.alloc (.cells #[] 4)).heap.size := by simp; omega
        obtain ⟨news, hnw⟩ : ∃ news, news = bv (some8 xs j) := ⟨_, rfl⟩
        rw [← hnw] at hnews HML HON
        have HNW := Lib.hid hnw
        clear hnw hb2
        go_wp2_with (at_builtin; refine wpList_append_own _ rfl _ _ 31 rfl w.heap.size 4 i0 _ 1 1 Try.underlying31 hi hz0 hz1 hz2 rfl (by decide) _ _ _ rfl hown2 ⟨b, off + 8 * j, none⟩ m (cap - 8 * j) news rfl HML.out hnews.out HON.out (by unfold maxLen; omega) (by omega) s3 ?_)
        intro v4 W4 hown4 g4 _
        have B4 := B3.grown g4 s3 (fun k hk => (hown2.lt k hk).1)
        have s4 := Nat.le_trans s3 g4.size
        clear hown2 g4 B3 s3 hnews HML HON hsl
        go_wp2_with fail
        go_loopw [5] (fun v wr => ∃ q : Nat, m ≤ q ∧ q ≤ 8 ∧ wr.ownsRow w.heap.size 4 1 v q (news ++ List.replicate (q - m) (.bool false)) ∧ Below w.heap.size w wr) (fun v _ => 8 - lenOf v)
        case atStart => exact ⟨m, Nat.le_refl _, hm8, by rw [Nat.sub_self]; simpa using hown4, B4⟩
        case round =>
          obtain ⟨q, hq1, hq2, hown5, B5⟩ := hrel
          have s5 := B5.size
          obtain ⟨ad, cp, rfl⟩ := owns_slice' hown5
          by_cases hq8 : q < 8
          · go_wp2_with (at_builtin; refine wpList_append_own _ rfl _ _ 31 rfl w.heap.size 4 i0 _ 1 1 Try.underlying31 hi hz0 hz1 hz2 rfl (by decide) _ _ _ rfl (hown5.alloc _) ⟨wr.heap.size, 0, none⟩ 1 1 [.bool false] rfl rfl (one_cell _ _ _) (by simp; rfl) (by unfold maxLen; omega) (by omega) (by simp; omega) ?_)
            intro v6 W6 hown6 g6 _
            have B6 := (B5.alloc s5 (.cells #[.bool false] 4)).grown g6 (by simp; omega) (fun k hk => (hown5.lt k hk).1)
            obtain ⟨ad6, cp6, rfl⟩ := owns_slice' hown6
            clear hown5 g6
            go_wp2
            go_roundw
            case rel =>
              refine ⟨q + 1, by omega, by omega, ?_, B6⟩
              rw [show q + 1 - m = q - m + 1 from by omega, List.replicate_succ']
              exact hown6
            case measure => simp [lenOf]; omega
          · obtain rfl : q = 8 := by omega
            have HE : Hid (news ++ List.replicate (8 - m) (Value.bool false) = bv (eight xs j)) := by
              show news ++ List.replicate (8 - m) (Value.bool false) = bv (eight xs j)
              rw [← some8_eight, HM.out, bv_append, HNW.out]; simp [bv]
            have hown6 : wr.ownsRow w.heap.size 4 1 (.slice ad 8 cp) (eight xs j).length (bv (eight xs j)) := by rw [eight_length, ← HE.out]; exact hown5
            obtain ⟨ad', cp', e', _, hba, _⟩ := owns_bools hown6
            rw [eight_length] at hba e'
            simp only [Value.slice.injEq] at e'
            obtain ⟨rfl, _, rfl⟩ := e'
            have HBA := Lib.hid hba
            have hby := byteAt_lt xs j
            have HBY := Lib.hid (show byteAt xs j = num (eight xs j) from rfl)
            have HTK := Lib.hid (pack_take xs j (by rw [HXL.out]; exact hjl))
            clear hown5 hown6 hba
            go_wp2_with fail
            refine (number_any ad 8 cp _ _ HBA.out (by omega)).mono ?_
            rintro e w' ⟨rfl, rfl⟩
            rw [← HBY.out]
            generalize byteAt xs j = y at *
            have hcv := conv_row wr.heap.size 1 [y] (wr.alloc (.cells #[.int .u8 (y : Int)] 5)) (heap_new wr _)
            rw [show (List.map UInt8.ofNat [y]).toArray = #[UInt8.ofNat y] from rfl] at hcv
            have hcv' : (convert 73 9 (.slice (some ⟨wr.heap.size, 0, none⟩) 1 1)).run Try.prog (wr.alloc (.cells #[.int .u8 (y : Int)] 5)) = .ok (.string ⟨#[UInt8.ofNat y]⟩) (wr.alloc (.cells #[.int .u8 (y : Int)] 5)) := hcv
            have B7 := B5.alloc s5 (.cells #[.int .u8 (y : Int)] 5)
            clear hcv
            go_wp2
            go_roundw
            case rel =>
              refine ⟨j + 1, by omega, by go_num, ?_, B7⟩
              rw [HTK.out, cat_one]
            case measure => simp [intOf]; omega
    · go_wp2
      go_ret
      refine ⟨?_, B2⟩
      rw [List.take_of_length_le (by rw [HPL.out]; omega)]; rfl

end Go.Proofs.Ytoanifeffegkiaa
