/-
  Contract of the document's own answer for layer 2: Get: the number with whose code bits begin.
  Condition: at most 4000 bits.
-/
import Derived.Test.YtoanifeffegkiaaRCode
import Derived.Test.YtoanifeffegkiaaRefC
namespace Go.Proofs.Ytoanifeffegkiaa
open Go.RowKit
set_option linter.unusedVariables false
set_option linter.unusedSimpArgs false

/-- What stands behind the first k bits of a slice of bools. -/
theorem bslice_from {W : World} {a : Option Addr} {len cap : Nat} {bs : List Bool} (h : BoolsAt W a len bs) (hc : len ≤ cap) (k : Nat) (hk : k ≤ len) :
    ∃ a', (∀ W' : World, (Instr.slice 31 (.slice a len cap) (some (.int .i64 (k : Int))) none none).run Try.prog W' = .ok (.slice a' (len - k) (cap - k)) W') ∧ BoolsAt W a' (len - k) (bs.drop k) ∧ len - k ≤ cap - k := by
  have hs : ∀ W' : World, (sizeOf (Try.prog.elem 31)).run Try.prog W' = .ok 1 W' := fun W' => by kernel_rfl
  obtain ⟨h1, h2⟩ := h
  have hdl : (bs.drop k).length = len - k := by simp; omega
  cases a with
  | none =>
    refine ⟨none, fun W' => ?_, ⟨hdl, ?_⟩, by omega⟩
    · rw [run_slice_l W' 31 _ _ _ (by kernel_rfl) .i64 (k : Int) (by omega) (by omega), hs]
      simp [Result.andThen, sliced]
    · rcases h2 with h0 | ⟨b, off, e, _⟩
      · exact .inl (by omega)
      · cases e
  | some x =>
    by_cases hkc : k = cap
    · refine ⟨some x, fun W' => ?_, ⟨hdl, .inl (by omega)⟩, by omega⟩
      rw [run_slice_l W' 31 _ _ _ (by kernel_rfl) .i64 (k : Int) (by omega) (by omega), hs]
      simp only [Result.andThen, sliced, Int.toNat_natCast]
      rw [if_pos (by omega)]
    · refine ⟨some (x.add k), fun W' => ?_, ⟨hdl, ?_⟩, by omega⟩
      · rw [run_slice_l W' 31 _ _ _ (by kernel_rfl) .i64 (k : Int) (by omega) (by omega), hs]
        simp only [Result.andThen, sliced, Int.toNat_natCast]
        rw [if_neg (by omega)]
        simp
      · rcases h2 with h0 | ⟨b, off, e, hb, hcl⟩
        · exact .inl (by omega)
        · simp only [Option.some.injEq] at e
          subst e
          refine .inr ⟨b, off + k, ?_, hb, fun i hi => ?_⟩
          · simp [Addr.add]
          · rw [List.getElem_drop, Nat.add_assoc]
            exact hcl (k + i) (by simp at hi; omega)
/-- Bits k to k + m of a slice of bools. -/
theorem bslice_part {W : World} {a : Option Addr} {len cap : Nat} {bs : List Bool} (h : BoolsAt W a len bs) (hc : len ≤ cap) (k m : Nat) (lo hi : Int) (hlo : lo = (k : Int)) (hhi : hi = ((k + m : Nat) : Int)) (hk : k + m ≤ len) :
    ∃ a', (∀ W' : World, (Instr.slice 31 (.slice a len cap) (some (.int .i64 lo)) (some (.int .i64 hi)) none).run Try.prog W' = .ok (.slice a' m (cap - k)) W') ∧ BoolsAt W a' m ((bs.drop k).take m) := by
  have hs : ∀ W' : World, (sizeOf (Try.prog.elem 31)).run Try.prog W' = .ok 1 W' := fun W' => by kernel_rfl
  subst hlo hhi
  obtain ⟨h1, h2⟩ := h
  have hdl : ((bs.drop k).take m).length = m := by simp; omega
  cases a with
  | none =>
    refine ⟨none, fun W' => ?_, ⟨hdl, ?_⟩⟩
    · rw [run_slice_lh W' 31 _ _ _ (by kernel_rfl) .i64 .i64 (k : Int) ((k + m : Nat) : Int) (by omega) (by omega) (by omega), hs]
      simp only [Result.andThen, sliced, Int.toNat_natCast]
      rw [show k + m - k = m from by omega]
      simp
    · rcases h2 with h0 | ⟨b, off, e, _⟩
      · exact .inl (by omega)
      · cases e
  | some x =>
    by_cases hkc : k = cap
    · refine ⟨some x, fun W' => ?_, ⟨hdl, .inl (by omega)⟩⟩
      rw [run_slice_lh W' 31 _ _ _ (by kernel_rfl) .i64 .i64 (k : Int) ((k + m : Nat) : Int) (by omega) (by omega) (by omega), hs]
      simp only [Result.andThen, sliced, Int.toNat_natCast]
      rw [if_pos (by omega), show k + m - k = m from by omega]
    · refine ⟨some (x.add k), fun W' => ?_, ⟨hdl, ?_⟩⟩
      · rw [run_slice_lh W' 31 _ _ _ (by kernel_rfl) .i64 .i64 (k : Int) ((k + m : Nat) : Int) (by omega) (by omega) (by omega), hs]
        simp only [Result.andThen, sliced, Int.toNat_natCast]
        rw [if_neg (by omega), show k + m - k = m from by omega]
        simp
      · rcases h2 with h0 | ⟨b, off, e, hb, hcl⟩
        · exact .inl (by omega)
        · simp only [Option.some.injEq] at e
          subst e
          refine .inr ⟨b, off + k, ?_, hb, fun i hi => ?_⟩
          · simp [Addr.add]
          · rw [List.getElem_take, List.getElem_drop, Nat.add_assoc]
            exact hcl (k + i) (by simp at hi; omega)
theorem BoolsAt.get {W : World} {a : Option Addr} {len : Nat} {bs : List Bool} (h : BoolsAt W a len bs) (j : Nat) (hj : j < len) :
    ∃ b off, a = some ⟨b, off, none⟩ ∧ b < W.heap.size ∧ W.cell? ⟨b, off + j, none⟩ = some (.bool (bs.getD j false)) := by
  obtain ⟨h1, h2⟩ := h
  rcases h2 with h0 | ⟨b, off, rfl, hb, hc⟩
  · omega
  · refine ⟨b, off, rfl, hb, ?_⟩
    rw [hc j (by omega), List.getD_eq_getElem?_getD, List.getElem?_eq_getElem (by omega)]; rfl

def RGetP (g : Nat × Nat × Int) (w : World) (e : Ending) (w' : World) : Prop :=
  e = .returned (.tuple #[.int .u64 (g.1 : Int), .int .i64 (g.2.1 : Int), .int .i64 g.2.2]) ∧ Below w.heap.size w w'

set_option maxRecDepth 100000 in
set_option maxHeartbeats 2000000 in
theorem rget_end (a : Option Addr) (len cap : Nat) (bs : List Bool) (w : World) (h : BoolsAt w a len bs) (hc : len ≤ cap) (hl : len ≤ 4000) (hk : leadK bs = len) (h4l : len < 4) :
    Calls Try.prog 25 #[.slice a len cap] w (RGetP (gets bs) w) := by
    have hbl := h.1
    have h4 := leadK_le bs
    rw [hk] at h4
    have HT : Hid (∀ i, i < len → bs.getD i false = true) := fun i hi => leadK_true bs i (by rw [hk]; exact hi)
    have HF : Hid (len < 4 → bs.getD (len) false = false) := fun hh => by have := leadK_false bs (by rw [hk]; exact hh); rwa [hk] at this
    have H := Lib.hid h
    have HK := Lib.hid hk
    have HBL := Lib.hid hbl
    have HG := Lib.hid (show gets bs = (0, 0, 3) from by unfold gets; rw [hk, hbl, if_pos ⟨h4l, rfl⟩])
    clear h hk
    rw [hbl] at h4
    clear hbl
    go_enter Try.func25, Try.ntmps25
    go_wp2
    go_loop [5] (fun t => ∃ j : Nat, j ≤ len ∧ t = .int .i64 (j : Int)) (fun t => len - (intOf t).toNat)
    case atStart => exact ⟨0, Nat.zero_le _, rfl⟩
    case round =>
      obtain ⟨j, hj, rfl⟩ := hrel
      by_cases hjk : j < len
      · have t4 : j < 4 := by omega
        have tl : j < len := by omega
        obtain ⟨b, off, rfl, hb, cj⟩ := H.out.get j tl
        rw [HT.out j hjk] at cj
        have tj0 : (0 : Int) ≤ (j : Int) := by omega
        have tj1 : (j : Int) < (len : Int) := by omega
        go_wp2
        go_round
        case rel => exact ⟨j + 1, by omega, by go_num⟩
        case measure => simp [intOf]; omega
      · obtain rfl : j = len := by omega
        clear hj hjk
        have e1 : ((j : Int) == (j : Int)) = true := by simp
        go_wp2
        go_ret3
        refine ⟨?_, Below.refl _ _⟩
        rw [HG.out]; rfl

set_option maxRecDepth 100000 in
set_option maxHeartbeats 2000000 in
theorem rget_k0 (a : Option Addr) (len cap : Nat) (bs : List Bool) (w : World) (h : BoolsAt w a len bs) (hc : len ≤ cap) (hl : len ≤ 4000) (hk : leadK bs = 0) (hkl : 0 < len) :
    Calls Try.prog 25 #[.slice a len cap] w (RGetP (gets bs) w) := by
    have hbl := h.1
    have h4 := leadK_le bs
    rw [hk] at h4
    have HT : Hid (∀ i, i < 0 → bs.getD i false = true) := fun i hi => leadK_true bs i (by rw [hk]; exact hi)
    have HF : Hid (0 < 4 → bs.getD (0) false = false) := fun hh => by have := leadK_false bs (by rw [hk]; exact hh); rwa [hk] at this
    have H := Lib.hid h
    have HK := Lib.hid hk
    have HBL := Lib.hid hbl
    have HGS : Hid (len < 1 → gets bs = (0, 0, 3)) := fun hh => by
      unfold gets
      rw [hk, hbl, if_neg (by omega), if_pos (by simp only [headN, wid]; omega)]
    have HGO : Hid (¬ len < 1 → onesN (num ((bs.drop 1).take 0)) = 0 → gets bs = (num ((bs.drop 1).take 0), 1, 0)) := fun hh ho => by
      unfold gets
      rw [hk, hbl, if_neg (by omega), if_neg (by simp only [headN, wid]; omega)]
      exact if_pos ho
    have HGF : Hid (¬ len < 1 → onesN (num ((bs.drop 1).take 0)) ≠ 0 → gets bs = (0, 0, 4)) := fun hh ho => by
      unfold gets
      rw [hk, hbl, if_neg (by omega), if_neg (by simp only [headN, wid]; omega)]
      exact if_neg ho
    clear h hk
    rw [hbl] at h4
    clear hbl
    have tkl : (0 : Int) < (len : Int) := by omega
    have tkn : ((0 : Int) == (len : Int)) = false := by rw [beq_eq_false_iff_ne]; omega
    go_enter Try.func25, Try.ntmps25
    go_wp2
    go_loop [5] (fun t => ∃ j : Nat, j ≤ 0 ∧ t = .int .i64 (j : Int)) (fun t => 0 - (intOf t).toNat)
    case atStart => exact ⟨0, Nat.zero_le _, rfl⟩
    case round =>
      obtain ⟨j, hj, rfl⟩ := hrel
      by_cases hjk : j < 0
      · exact absurd hjk (by omega)
      · obtain rfl : j = 0 := by omega
        clear hj hjk
        obtain ⟨b, off, rfl, hb, cj⟩ := H.out.get 0 hkl
        rw [HF.out (by decide)] at cj
        simp only [Nat.add_zero] at cj
        by_cases hs : len < 1
        · exact absurd hs (by omega)
        · have hsI : ¬ (len : Int) < 1 := by omega
          obtain ⟨a', hsl, hba⟩ := bslice_part H.out hc 1 0 1 1 rfl rfl (by omega)
          have hul := num_take_lt64 bs 1 0 (by decide)
          have HGO2 := Lib.hid (HGO.out hs)
          have HGF2 := Lib.hid (HGF.out hs)
          have HBA := Lib.hid hba
          clear HGS HGO HGF hba H HT HF
          generalize (bs.drop 1).take 0 = part at *
          go_wp2_with fail
          have B1 := (Below.refl w.heap.size w).alloc (Nat.le_refl _) (.cells #[.int .i64 0, .int .i64 7, .int .i64 12, .int .i64 24, .int .i64 64] 3)
          have hb1 := HBA.out.keep B1
          generalize w.alloc (.cells #[.int .i64 0, .int .i64 7, .int .i64 12, .int .i64 24, .int .i64 64] 3) = W1 at *
          have s1 := B1.size
          refine (number_any a' 0 _ part _ hb1 (by decide)).mono ?_
          rintro e w' ⟨rfl, rfl⟩
          generalize num part = u at *
          go_wp2_with fail
          refine (rcode_any u _ hul).mono ?_
          rintro e W2 ⟨v, rfl, hv, b2⟩
          obtain ⟨ad, cp, rfl, _⟩ := owns_bools hv
          have B2 := bel_gbn B1 s1 (gb_below b2)
          rw [code_length]
          have hcs := csize_le u
          by_cases ho : onesN u = 0
          · have hce0 : csize u = 1 := by unfold csize; rw [ho]; rfl
            rw [hce0]
            have HE := Lib.hid (HGO2.out ho)
            clear HGO2 HGF2 hv b2 hcs ho hce0
            go_wp2
            go_ret3
            refine ⟨?_, B2⟩
            rw [HE.out]; rfl
          · have hce : ((csize u : Int) != 1) = true := by
              rw [bne_iff_ne]
              intro hh
              have h1 : headN (onesN u) + wid (onesN u) = headN 0 + wid 0 := by
                have : csize u = 1 := by omega
                exact this
              exact ho (csize_inj (onesN_le u) (by decide) h1)
            have HE := Lib.hid (HGF2.out ho)
            clear HGO2 HGF2 hv b2 ho
            generalize csize u = cu at *
            go_wp2
            go_ret3
            refine ⟨?_, B2⟩
            rw [HE.out]; rfl

set_option maxRecDepth 100000 in
set_option maxHeartbeats 2000000 in
theorem rget_k1 (a : Option Addr) (len cap : Nat) (bs : List Bool) (w : World) (h : BoolsAt w a len bs) (hc : len ≤ cap) (hl : len ≤ 4000) (hk : leadK bs = 1) (hkl : 1 < len) :
    Calls Try.prog 25 #[.slice a len cap] w (RGetP (gets bs) w) := by
    have hbl := h.1
    have h4 := leadK_le bs
    rw [hk] at h4
    have HT : Hid (∀ i, i < 1 → bs.getD i false = true) := fun i hi => leadK_true bs i (by rw [hk]; exact hi)
    have HF : Hid (1 < 4 → bs.getD (1) false = false) := fun hh => by have := leadK_false bs (by rw [hk]; exact hh); rwa [hk] at this
    have H := Lib.hid h
    have HK := Lib.hid hk
    have HBL := Lib.hid hbl
    have HGS : Hid (len < 9 → gets bs = (0, 0, 3)) := fun hh => by
      unfold gets
      rw [hk, hbl, if_neg (by omega), if_pos (by simp only [headN, wid]; omega)]
    have HGO : Hid (¬ len < 9 → onesN (num ((bs.drop 2).take 7)) = 1 → gets bs = (num ((bs.drop 2).take 7), 9, 0)) := fun hh ho => by
      unfold gets
      rw [hk, hbl, if_neg (by omega), if_neg (by simp only [headN, wid]; omega)]
      exact if_pos ho
    have HGF : Hid (¬ len < 9 → onesN (num ((bs.drop 2).take 7)) ≠ 1 → gets bs = (0, 0, 4)) := fun hh ho => by
      unfold gets
      rw [hk, hbl, if_neg (by omega), if_neg (by simp only [headN, wid]; omega)]
      exact if_neg ho
    clear h hk
    rw [hbl] at h4
    clear hbl
    have tkl : (1 : Int) < (len : Int) := by omega
    have tkn : ((1 : Int) == (len : Int)) = false := by rw [beq_eq_false_iff_ne]; omega
    go_enter Try.func25, Try.ntmps25
    go_wp2
    go_loop [5] (fun t => ∃ j : Nat, j ≤ 1 ∧ t = .int .i64 (j : Int)) (fun t => 1 - (intOf t).toNat)
    case atStart => exact ⟨0, Nat.zero_le _, rfl⟩
    case round =>
      obtain ⟨j, hj, rfl⟩ := hrel
      by_cases hjk : j < 1
      · have t4 : j < 4 := by omega
        have tl : j < len := by omega
        obtain ⟨b, off, rfl, hb, cj⟩ := H.out.get j tl
        rw [HT.out j hjk] at cj
        have tj0 : (0 : Int) ≤ (j : Int) := by omega
        have tj1 : (j : Int) < (len : Int) := by omega
        go_wp2
        go_round
        case rel => exact ⟨j + 1, by omega, by go_num⟩
        case measure => simp [intOf]; omega
      · obtain rfl : j = 1 := by omega
        clear hj hjk
        obtain ⟨b, off, rfl, hb, cj⟩ := H.out.get 1 hkl
        rw [HF.out (by decide)] at cj
        by_cases hs : len < 9
        · have hsI : (len : Int) < 9 := by omega
          go_wp2
          go_ret3
          refine ⟨?_, (Below.refl _ _).alloc (Nat.le_refl _) _⟩
          rw [HGS.out hs]; rfl
        · have hsI : ¬ (len : Int) < 9 := by omega
          obtain ⟨a', hsl, hba⟩ := bslice_part H.out hc 2 7 2 9 rfl rfl (by omega)
          have hul := num_take_lt64 bs 2 7 (by decide)
          have HGO2 := Lib.hid (HGO.out hs)
          have HGF2 := Lib.hid (HGF.out hs)
          have HBA := Lib.hid hba
          clear HGS HGO HGF hba H HT HF
          generalize (bs.drop 2).take 7 = part at *
          go_wp2_with fail
          have B1 := (Below.refl w.heap.size w).alloc (Nat.le_refl _) (.cells #[.int .i64 0, .int .i64 7, .int .i64 12, .int .i64 24, .int .i64 64] 3)
          have hb1 := HBA.out.keep B1
          generalize w.alloc (.cells #[.int .i64 0, .int .i64 7, .int .i64 12, .int .i64 24, .int .i64 64] 3) = W1 at *
          have s1 := B1.size
          refine (number_any a' 7 _ part _ hb1 (by decide)).mono ?_
          rintro e w' ⟨rfl, rfl⟩
          generalize num part = u at *
          go_wp2_with fail
          refine (rcode_any u _ hul).mono ?_
          rintro e W2 ⟨v, rfl, hv, b2⟩
          obtain ⟨ad, cp, rfl, _⟩ := owns_bools hv
          have B2 := bel_gbn B1 s1 (gb_below b2)
          rw [code_length]
          have hcs := csize_le u
          by_cases ho : onesN u = 1
          · have hce0 : csize u = 9 := by unfold csize; rw [ho]; rfl
            rw [hce0]
            have HE := Lib.hid (HGO2.out ho)
            clear HGO2 HGF2 hv b2 hcs ho hce0
            go_wp2
            go_ret3
            refine ⟨?_, B2⟩
            rw [HE.out]; rfl
          · have hce : ((csize u : Int) != 9) = true := by
              rw [bne_iff_ne]
              intro hh
              have h1 : headN (onesN u) + wid (onesN u) = headN 1 + wid 1 := by
                have : csize u = 9 := by omega
                exact this
              exact ho (csize_inj (onesN_le u) (by decide) h1)
            have HE := Lib.hid (HGF2.out ho)
            clear HGO2 HGF2 hv b2 ho
            generalize csize u = cu at *
            go_wp2
            go_ret3
            refine ⟨?_, B2⟩
            rw [HE.out]; rfl

set_option maxRecDepth 100000 in
set_option maxHeartbeats 2000000 in
theorem rget_k2 (a : Option Addr) (len cap : Nat) (bs : List Bool) (w : World) (h : BoolsAt w a len bs) (hc : len ≤ cap) (hl : len ≤ 4000) (hk : leadK bs = 2) (hkl : 2 < len) :
    Calls Try.prog 25 #[.slice a len cap] w (RGetP (gets bs) w) := by
    have hbl := h.1
    have h4 := leadK_le bs
    rw [hk] at h4
    have HT : Hid (∀ i, i < 2 → bs.getD i false = true) := fun i hi => leadK_true bs i (by rw [hk]; exact hi)
    have HF : Hid (2 < 4 → bs.getD (2) false = false) := fun hh => by have := leadK_false bs (by rw [hk]; exact hh); rwa [hk] at this
    have H := Lib.hid h
    have HK := Lib.hid hk
    have HBL := Lib.hid hbl
    have HGS : Hid (len < 15 → gets bs = (0, 0, 3)) := fun hh => by
      unfold gets
      rw [hk, hbl, if_neg (by omega), if_pos (by simp only [headN, wid]; omega)]
    have HGO : Hid (¬ len < 15 → onesN (num ((bs.drop 3).take 12)) = 2 → gets bs = (num ((bs.drop 3).take 12), 15, 0)) := fun hh ho => by
      unfold gets
      rw [hk, hbl, if_neg (by omega), if_neg (by simp only [headN, wid]; omega)]
      exact if_pos ho
    have HGF : Hid (¬ len < 15 → onesN (num ((bs.drop 3).take 12)) ≠ 2 → gets bs = (0, 0, 4)) := fun hh ho => by
      unfold gets
      rw [hk, hbl, if_neg (by omega), if_neg (by simp only [headN, wid]; omega)]
      exact if_neg ho
    clear h hk
    rw [hbl] at h4
    clear hbl
    have tkl : (2 : Int) < (len : Int) := by omega
    have tkn : ((2 : Int) == (len : Int)) = false := by rw [beq_eq_false_iff_ne]; omega
    go_enter Try.func25, Try.ntmps25
    go_wp2
    go_loop [5] (fun t => ∃ j : Nat, j ≤ 2 ∧ t = .int .i64 (j : Int)) (fun t => 2 - (intOf t).toNat)
    case atStart => exact ⟨0, Nat.zero_le _, rfl⟩
    case round =>
      obtain ⟨j, hj, rfl⟩ := hrel
      by_cases hjk : j < 2
      · have t4 : j < 4 := by omega
        have tl : j < len := by omega
        obtain ⟨b, off, rfl, hb, cj⟩ := H.out.get j tl
        rw [HT.out j hjk] at cj
        have tj0 : (0 : Int) ≤ (j : Int) := by omega
        have tj1 : (j : Int) < (len : Int) := by omega
        go_wp2
        go_round
        case rel => exact ⟨j + 1, by omega, by go_num⟩
        case measure => simp [intOf]; omega
      · obtain rfl : j = 2 := by omega
        clear hj hjk
        obtain ⟨b, off, rfl, hb, cj⟩ := H.out.get 2 hkl
        rw [HF.out (by decide)] at cj
        by_cases hs : len < 15
        · have hsI : (len : Int) < 15 := by omega
          go_wp2
          go_ret3
          refine ⟨?_, (Below.refl _ _).alloc (Nat.le_refl _) _⟩
          rw [HGS.out hs]; rfl
        · have hsI : ¬ (len : Int) < 15 := by omega
          obtain ⟨a', hsl, hba⟩ := bslice_part H.out hc 3 12 3 15 rfl rfl (by omega)
          have hul := num_take_lt64 bs 3 12 (by decide)
          have HGO2 := Lib.hid (HGO.out hs)
          have HGF2 := Lib.hid (HGF.out hs)
          have HBA := Lib.hid hba
          clear HGS HGO HGF hba H HT HF
          generalize (bs.drop 3).take 12 = part at *
          go_wp2_with fail
          have B1 := (Below.refl w.heap.size w).alloc (Nat.le_refl _) (.cells #[.int .i64 0, .int .i64 7, .int .i64 12, .int .i64 24, .int .i64 64] 3)
          have hb1 := HBA.out.keep B1
          generalize w.alloc (.cells #[.int .i64 0, .int .i64 7, .int .i64 12, .int .i64 24, .int .i64 64] 3) = W1 at *
          have s1 := B1.size
          refine (number_any a' 12 _ part _ hb1 (by decide)).mono ?_
          rintro e w' ⟨rfl, rfl⟩
          generalize num part = u at *
          go_wp2_with fail
          refine (rcode_any u _ hul).mono ?_
          rintro e W2 ⟨v, rfl, hv, b2⟩
          obtain ⟨ad, cp, rfl, _⟩ := owns_bools hv
          have B2 := bel_gbn B1 s1 (gb_below b2)
          rw [code_length]
          have hcs := csize_le u
          by_cases ho : onesN u = 2
          · have hce0 : csize u = 15 := by unfold csize; rw [ho]; rfl
            rw [hce0]
            have HE := Lib.hid (HGO2.out ho)
            clear HGO2 HGF2 hv b2 hcs ho hce0
            go_wp2
            go_ret3
            refine ⟨?_, B2⟩
            rw [HE.out]; rfl
          · have hce : ((csize u : Int) != 15) = true := by
              rw [bne_iff_ne]
              intro hh
              have h1 : headN (onesN u) + wid (onesN u) = headN 2 + wid 2 := by
                have : csize u = 15 := by omega
                exact this
              exact ho (csize_inj (onesN_le u) (by decide) h1)
            have HE := Lib.hid (HGF2.out ho)
            clear HGO2 HGF2 hv b2 ho
            generalize csize u = cu at *
            go_wp2
            go_ret3
            refine ⟨?_, B2⟩
            rw [HE.out]; rfl

set_option maxRecDepth 100000 in
set_option maxHeartbeats 2000000 in
theorem rget_k3 (a : Option Addr) (len cap : Nat) (bs : List Bool) (w : World) (h : BoolsAt w a len bs) (hc : len ≤ cap) (hl : len ≤ 4000) (hk : leadK bs = 3) (hkl : 3 < len) :
    Calls Try.prog 25 #[.slice a len cap] w (RGetP (gets bs) w) := by
    have hbl := h.1
    have h4 := leadK_le bs
    rw [hk] at h4
    have HT : Hid (∀ i, i < 3 → bs.getD i false = true) := fun i hi => leadK_true bs i (by rw [hk]; exact hi)
    have HF : Hid (3 < 4 → bs.getD (3) false = false) := fun hh => by have := leadK_false bs (by rw [hk]; exact hh); rwa [hk] at this
    have H := Lib.hid h
    have HK := Lib.hid hk
    have HBL := Lib.hid hbl
    have HGS : Hid (len < 28 → gets bs = (0, 0, 3)) := fun hh => by
      unfold gets
      rw [hk, hbl, if_neg (by omega), if_pos (by simp only [headN, wid]; omega)]
    have HGO : Hid (¬ len < 28 → onesN (num ((bs.drop 4).take 24)) = 3 → gets bs = (num ((bs.drop 4).take 24), 28, 0)) := fun hh ho => by
      unfold gets
      rw [hk, hbl, if_neg (by omega), if_neg (by simp only [headN, wid]; omega)]
      exact if_pos ho
    have HGF : Hid (¬ len < 28 → onesN (num ((bs.drop 4).take 24)) ≠ 3 → gets bs = (0, 0, 4)) := fun hh ho => by
      unfold gets
      rw [hk, hbl, if_neg (by omega), if_neg (by simp only [headN, wid]; omega)]
      exact if_neg ho
    clear h hk
    rw [hbl] at h4
    clear hbl
    have tkl : (3 : Int) < (len : Int) := by omega
    have tkn : ((3 : Int) == (len : Int)) = false := by rw [beq_eq_false_iff_ne]; omega
    go_enter Try.func25, Try.ntmps25
    go_wp2
    go_loop [5] (fun t => ∃ j : Nat, j ≤ 3 ∧ t = .int .i64 (j : Int)) (fun t => 3 - (intOf t).toNat)
    case atStart => exact ⟨0, Nat.zero_le _, rfl⟩
    case round =>
      obtain ⟨j, hj, rfl⟩ := hrel
      by_cases hjk : j < 3
      · have t4 : j < 4 := by omega
        have tl : j < len := by omega
        obtain ⟨b, off, rfl, hb, cj⟩ := H.out.get j tl
        rw [HT.out j hjk] at cj
        have tj0 : (0 : Int) ≤ (j : Int) := by omega
        have tj1 : (j : Int) < (len : Int) := by omega
        go_wp2
        go_round
        case rel => exact ⟨j + 1, by omega, by go_num⟩
        case measure => simp [intOf]; omega
      · obtain rfl : j = 3 := by omega
        clear hj hjk
        obtain ⟨b, off, rfl, hb, cj⟩ := H.out.get 3 hkl
        rw [HF.out (by decide)] at cj
        by_cases hs : len < 28
        · have hsI : (len : Int) < 28 := by omega
          go_wp2
          go_ret3
          refine ⟨?_, (Below.refl _ _).alloc (Nat.le_refl _) _⟩
          rw [HGS.out hs]; rfl
        · have hsI : ¬ (len : Int) < 28 := by omega
          obtain ⟨a', hsl, hba⟩ := bslice_part H.out hc 4 24 4 28 rfl rfl (by omega)
          have hul := num_take_lt64 bs 4 24 (by decide)
          have HGO2 := Lib.hid (HGO.out hs)
          have HGF2 := Lib.hid (HGF.out hs)
          have HBA := Lib.hid hba
          clear HGS HGO HGF hba H HT HF
          generalize (bs.drop 4).take 24 = part at *
          go_wp2_with fail
          have B1 := (Below.refl w.heap.size w).alloc (Nat.le_refl _) (.cells #[.int .i64 0, .int .i64 7, .int .i64 12, .int .i64 24, .int .i64 64] 3)
          have hb1 := HBA.out.keep B1
          generalize w.alloc (.cells #[.int .i64 0, .int .i64 7, .int .i64 12, .int .i64 24, .int .i64 64] 3) = W1 at *
          have s1 := B1.size
          refine (number_any a' 24 _ part _ hb1 (by decide)).mono ?_
          rintro e w' ⟨rfl, rfl⟩
          generalize num part = u at *
          go_wp2_with fail
          refine (rcode_any u _ hul).mono ?_
          rintro e W2 ⟨v, rfl, hv, b2⟩
          obtain ⟨ad, cp, rfl, _⟩ := owns_bools hv
          have B2 := bel_gbn B1 s1 (gb_below b2)
          rw [code_length]
          have hcs := csize_le u
          by_cases ho : onesN u = 3
          · have hce0 : csize u = 28 := by unfold csize; rw [ho]; rfl
            rw [hce0]
            have HE := Lib.hid (HGO2.out ho)
            clear HGO2 HGF2 hv b2 hcs ho hce0
            go_wp2
            go_ret3
            refine ⟨?_, B2⟩
            rw [HE.out]; rfl
          · have hce : ((csize u : Int) != 28) = true := by
              rw [bne_iff_ne]
              intro hh
              have h1 : headN (onesN u) + wid (onesN u) = headN 3 + wid 3 := by
                have : csize u = 28 := by omega
                exact this
              exact ho (csize_inj (onesN_le u) (by decide) h1)
            have HE := Lib.hid (HGF2.out ho)
            clear HGO2 HGF2 hv b2 ho
            generalize csize u = cu at *
            go_wp2
            go_ret3
            refine ⟨?_, B2⟩
            rw [HE.out]; rfl

set_option maxRecDepth 100000 in
set_option maxHeartbeats 2000000 in
theorem rget_k4 (a : Option Addr) (len cap : Nat) (bs : List Bool) (w : World) (h : BoolsAt w a len bs) (hc : len ≤ cap) (hl : len ≤ 4000) (hk : leadK bs = 4) :
    Calls Try.prog 25 #[.slice a len cap] w (RGetP (gets bs) w) := by
    have hbl := h.1
    have h4 := leadK_le bs
    rw [hk] at h4
    have HT : Hid (∀ i, i < 4 → bs.getD i false = true) := fun i hi => leadK_true bs i (by rw [hk]; exact hi)
    have HF : Hid (4 < 4 → bs.getD (4) false = false) := fun hh => by have := leadK_false bs (by rw [hk]; exact hh); rwa [hk] at this
    have H := Lib.hid h
    have HK := Lib.hid hk
    have HBL := Lib.hid hbl
    have HGS : Hid (len < 68 → gets bs = (0, 0, 3)) := fun hh => by
      unfold gets
      rw [hk, hbl, if_neg (by omega), if_pos (by simp only [headN, wid]; omega)]
    have HGO : Hid (¬ len < 68 → onesN (num ((bs.drop 4).take 64)) = 4 → gets bs = (num ((bs.drop 4).take 64), 68, 0)) := fun hh ho => by
      unfold gets
      rw [hk, hbl, if_neg (by omega), if_neg (by simp only [headN, wid]; omega)]
      exact if_pos ho
    have HGF : Hid (¬ len < 68 → onesN (num ((bs.drop 4).take 64)) ≠ 4 → gets bs = (0, 0, 4)) := fun hh ho => by
      unfold gets
      rw [hk, hbl, if_neg (by omega), if_neg (by simp only [headN, wid]; omega)]
      exact if_neg ho
    clear h hk
    rw [hbl] at h4
    clear hbl
    go_enter Try.func25, Try.ntmps25
    go_wp2
    go_loop [5] (fun t => ∃ j : Nat, j ≤ 4 ∧ t = .int .i64 (j : Int)) (fun t => 4 - (intOf t).toNat)
    case atStart => exact ⟨0, Nat.zero_le _, rfl⟩
    case round =>
      obtain ⟨j, hj, rfl⟩ := hrel
      by_cases hjk : j < 4
      · have t4 : j < 4 := by omega
        have tl : j < len := by omega
        obtain ⟨b, off, rfl, hb, cj⟩ := H.out.get j tl
        rw [HT.out j hjk] at cj
        have tj0 : (0 : Int) ≤ (j : Int) := by omega
        have tj1 : (j : Int) < (len : Int) := by omega
        go_wp2
        go_round
        case rel => exact ⟨j + 1, by omega, by go_num⟩
        case measure => simp [intOf]; omega
      · obtain rfl : j = 4 := by omega
        clear hj hjk
        by_cases hs : len < 68
        · have hsI : (len : Int) < 68 := by omega
          go_wp2
          go_ret3
          refine ⟨?_, (Below.refl _ _).alloc (Nat.le_refl _) _⟩
          rw [HGS.out hs]; rfl
        · have hsI : ¬ (len : Int) < 68 := by omega
          obtain ⟨a', hsl, hba⟩ := bslice_part H.out hc 4 64 4 68 rfl rfl (by omega)
          have hul := num_take_lt64 bs 4 64 (by decide)
          have HGO2 := Lib.hid (HGO.out hs)
          have HGF2 := Lib.hid (HGF.out hs)
          have HBA := Lib.hid hba
          clear HGS HGO HGF hba H HT HF
          generalize (bs.drop 4).take 64 = part at *
          go_wp2_with fail
          have B1 := (Below.refl w.heap.size w).alloc (Nat.le_refl _) (.cells #[.int .i64 0, .int .i64 7, .int .i64 12, .int .i64 24, .int .i64 64] 3)
          have hb1 := HBA.out.keep B1
          generalize w.alloc (.cells #[.int .i64 0, .int .i64 7, .int .i64 12, .int .i64 24, .int .i64 64] 3) = W1 at *
          have s1 := B1.size
          refine (number_any a' 64 _ part _ hb1 (by decide)).mono ?_
          rintro e w' ⟨rfl, rfl⟩
          generalize num part = u at *
          go_wp2_with fail
          refine (rcode_any u _ hul).mono ?_
          rintro e W2 ⟨v, rfl, hv, b2⟩
          obtain ⟨ad, cp, rfl, _⟩ := owns_bools hv
          have B2 := bel_gbn B1 s1 (gb_below b2)
          rw [code_length]
          have hcs := csize_le u
          by_cases ho : onesN u = 4
          · have hce0 : csize u = 68 := by unfold csize; rw [ho]; rfl
            rw [hce0]
            have HE := Lib.hid (HGO2.out ho)
            clear HGO2 HGF2 hv b2 hcs ho hce0
            go_wp2
            go_ret3
            refine ⟨?_, B2⟩
            rw [HE.out]; rfl
          · have hce : ((csize u : Int) != 68) = true := by
              rw [bne_iff_ne]
              intro hh
              have h1 : headN (onesN u) + wid (onesN u) = headN 4 + wid 4 := by
                have : csize u = 68 := by omega
                exact this
              exact ho (csize_inj (onesN_le u) (by decide) h1)
            have HE := Lib.hid (HGF2.out ho)
            clear HGO2 HGF2 hv b2 ho
            generalize csize u = cu at *
            go_wp2
            go_ret3
            refine ⟨?_, B2⟩
            rw [HE.out]; rfl

theorem rget_any (a : Option Addr) (len cap : Nat) (bs : List Bool) (w : World) (h : BoolsAt w a len bs) (hc : len ≤ cap) (hl : len ≤ 4000) :
    Calls Try.prog 25 #[.slice a len cap] w (RGetP (gets bs) w) := by
  have h4 := leadK_le bs
  have hbl := h.1
  by_cases hs : leadK bs < 4 ∧ leadK bs = len
  · exact rget_end a len cap bs w h hc hl hs.2 (by omega)
  · rcases le4 h4.1 with hk | hk | hk | hk | hk
    · exact rget_k0 a len cap bs w h hc hl hk (by omega)
    · exact rget_k1 a len cap bs w h hc hl hk (by omega)
    · exact rget_k2 a len cap bs w h hc hl hk (by omega)
    · exact rget_k3 a len cap bs w h hc hl hk (by omega)
    · exact rget_k4 a len cap bs w h hc hl hk

end Go.Proofs.Ytoanifeffegkiaa
