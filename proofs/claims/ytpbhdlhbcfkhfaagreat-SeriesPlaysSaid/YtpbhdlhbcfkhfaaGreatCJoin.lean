/-
  Contracts of chunk.Join, chunk.Copy.
  Condition: at most 2^20 samples in all.
-/
import Derived.Test.YtpbhdlhbcfkhfaaGreatCDrop
import Derived.LaidEqlPtr
namespace Go.Proofs.YtpbhdlhbcfkhfaaGreat
open Go.RowKit
set_option linter.unusedVariables false
set_option linter.unusedSimpArgs false

/-- What joining tells, and leaves. -/
def joinE (sz : Int) (x y : List (Int × Int)) : Int := if meetB x y = true then 1 else tookE sz (x ++ y)
def joinL (sz : Int) (x y : List (Int × Int)) : List (Int × Int) := if joinE sz x y = 0 then x ++ y else x
def joinR (sz : Int) (x y : List (Int × Int)) : List (Int × Int) := if joinE sz x y = 0 then [] else y
/-- Two blocks alone turn, and new ones. -/
def TwoOnly (b c : Nat) (w w' : World) : Prop := w'.os = w.os ∧ w'.tape = w.tape ∧ w'.output = w.output ∧ w.heap.size ≤ w'.heap.size ∧ ∀ k, k < w.heap.size → k ≠ b → k ≠ c → w'.heap[k]? = w.heap[k]?
theorem TwoOnly.of {b c : Nat} {w w1 w2 : World} (h : w.grownBy w1 (some b)) (k : w1.grownBy w2 (some c)) : TwoOnly b c w w2 :=
  ⟨k.os.trans h.os, k.tape.trans h.tape, k.output.trans h.output, Nat.le_trans h.size k.size, fun i hi h1 h2 => (k.block i (Nat.lt_of_lt_of_le hi h.size) (by simp; exact h2)).trans (h.block i hi (by simp; exact h1))⟩
def JoinP (ty : TypeId) (b o : Nat) (sz so : Int) (x y : List (Int × Int)) (w : World) (e : Ending) (w' : World) : Prop :=
  e = .returned (.int .i64 (joinE sz x y)) ∧ CAt ty w' b sz (joinL sz x y) ∧ CAt ty w' o so (joinR sz x y) ∧ TwoOnly b o w w'
theorem tookE_cases (sz : Int) (l : List (Int × Int)) : tookE sz l = 0 ∧ tookL sz [] l = l ∧ (∀ z, tookL sz z l = l) ∨ tookE sz l = 2 ∧ ∀ z, tookL sz z l = z := by
  unfold tookE tookL
  by_cases h : 8 * sz < (bitsZ l : Int)
  · right; rw [if_pos h]; exact ⟨rfl, fun z => by rw [if_pos h]⟩
  · left; rw [if_neg h]; exact ⟨rfl, by rw [if_neg h], fun z => by rw [if_neg h]⟩

theorem info_chunk : ∃ j, Tryz.prog.info? 76 = some j ∧ j.size ≠ 0 := by
  have h : (Tryz.prog.info? 76).map (·.size) = some 2 := by kernel_rfl
  cases hj : Tryz.prog.info? 76 with
  | none => rw [hj] at h; simp at h
  | some j => rw [hj] at h; simp at h; exact ⟨j, rfl, by omega⟩
/-- Two chunks are told apart. -/
theorem ptr_other {w : World} {b o : Nat} {cb co : Array Value} {tb to : TypeId} (hb : w.heap[b]? = some (.cells cb tb (0, 0))) (ho : w.heap[o]? = some (.cells co to (0, 0))) (hne : b ≠ o) :
    (binOp .eql 46 (.pointer (some ⟨o, 0, none⟩)) (.pointer (some ⟨b, 0, none⟩))).run Tryz.prog w = .ok (.bool false) w := by
  obtain ⟨j, hj, hsz⟩ := info_chunk
  exact run_eql_ptr_other w Tryz.underlying46 hj hsz (by intro e; cases e; exact hne rfl) ho hb
theorem ptr_same (w : World) (b : Nat) :
    (binOp .eql 46 (.pointer (some ⟨b, 0, none⟩)) (.pointer (some ⟨b, 0, none⟩))).run Tryz.prog w = .ok (.bool true) w := by
  obtain ⟨j, hj, hsz⟩ := info_chunk
  exact run_eql_ptr_same w _ Tryz.underlying46 hj

theorem take_len (b : Nat) (sz : Int) (z l : List (Int × Int)) (a : Option Addr) (N cap : Nat) (w : World) (h : PCk w b sz z) (hs : 1 ≤ sz) (hs2 : sz ≤ 4096) (hN : l.length = N) (hl : Lst w a N cap l) (hn : N ≤ 1048576) :
    Calls Tryz.prog 87 #[.pointer (some ⟨b, 0, none⟩), .slice a N cap] w (ErrP 76 b sz (tookE sz l) (tookL sz z l) w) := by
  subst hN
  exact take_ok b sz z l a cap w h hs hs2 hl hn
theorem laid_len (pb : Nat) (Z : List (List (Int × Int))) (A : Nat → Option Addr) (C : Nat → Nat) (n : Nat) (w : World) (z : List (Int × Int)) (N : Nat) (hz : Z.flatten = z) (hN : z.length = N) (hn : Z.length = n) (hp : PartsAt w pb Z A C) (hpb : pb < w.heap.size) (hs : N ≤ 1048576) (hn8 : n ≤ 8) :
    Calls Tryz.prog 54 #[.slice (some ⟨pb, 0, none⟩) n n] w fun e w' => ∃ a cap, e = .returned (.slice a N cap) ∧ Lst w' a N cap z ∧ Below w.heap.size w w' := by
  subst hz hN
  exact laid_any pb Z A C n w hn hp hpb hs hn8

set_option maxRecDepth 100000 in
set_option maxHeartbeats 4000000 in
theorem join_ok (b o : Nat) (sz so : Int) (x y : List (Int × Int)) (w : World) (hx : PCk w b sz x) (hy : PCk w o so y) (hne : b ≠ o) (hs : 1 ≤ sz) (hs2 : sz ≤ 4096) (hso : 1 ≤ so) (hn : x.length + y.length ≤ 1048576) :
    Calls Tryz.prog 93 #[.pointer (some ⟨b, 0, none⟩), .pointer (some ⟨o, 0, none⟩)] w (JoinP 76 b o sz so x y w) := by
  have hb := hx.lt
  have ho := hy.lt
  have HX := Lib.hid hx
  have HY := Lib.hid hy
  obtain ⟨a, cap, hcx, hlx⟩ := hx
  obtain ⟨a2, cap2, hcy, hly⟩ := hy
  have HCX := Lib.hid hcx
  have HCY := Lib.hid hcy
  have HLX := Lib.hid hlx
  have HLY := Lib.hid hly
  have heq := ptr_other hcx hcy hne
  clear hcx hlx hcy hly
  have hsx : x.length ≤ 1048576 := by omega
  have hsy : y.length ≤ 1048576 := by omega
  cases hm : meetB x y
  · have HM := Lib.hid hm
    clear hm
    go_enter Tryz.func93, Tryz.ntmps93
    go_wp2_with fail
    refine (isNone_no b sz _ _ HCX.out hs).mono ?_
    rintro e w' ⟨rfl, rfl⟩
    go_wp2_with fail
    refine (isNone_no o so _ _ HCY.out hso).mono ?_
    rintro e w' ⟨rfl, rfl⟩
    go_wp2_with fail
    refine (follows_ok o b so sz y x _ HY.out HX.out hso hs hsy hsx).mono ?_
    rintro e W1 ⟨rfl, b1⟩
    rw [HM.out]
    have hb1 := b1.size
    have hX1 := (b1.block b hb).trans HCX.out
    have hY1 := (b1.block o ho).trans HCY.out
    have c1 : W1.cell? ⟨b, 1, none⟩ = some (.slice a x.length cap) := by rw [cell_of hX1]; rfl
    have c2 : W1.cell? ⟨o, 1, none⟩ = some (.slice a2 y.length cap2) := by rw [cell_of hY1]; rfl
    have HPT0 := Lib.hid (parts_two (HLX.out.keepB b1) (HLY.out.keepB b1))
    have HPT : Hid (PartsAt (W1.alloc (.cells #[.slice a x.length cap, .slice a2 y.length cap2] 53)).drew W1.heap.size [x, y] (fun i => if i = 0 then a else a2) (fun i => if i = 0 then cap else cap2)) := HPT0
    have HXA0 := Lib.hid ((HX.out.keepB b1).keepN (World.grownBy_alloc W1 (.cells #[.slice a x.length cap, .slice a2 y.length cap2] 53) none))
    have HXA : Hid (PCk (W1.alloc (.cells #[.slice a x.length cap, .slice a2 y.length cap2] 53)).drew b sz x) := HXA0
    clear HPT0 HXA0 hX1 hY1
    obtain ⟨N, hN⟩ : ∃ N, (x ++ y).length = N := ⟨_, rfl⟩
    have HN := Lib.hid hN
    have hN2 : N ≤ 1048576 := by rw [← hN, List.length_append]; omega
    have HF := Lib.hid (show [x, y].flatten = x ++ y from by simp)
    clear hN
    go_wp2_with fail
    go_region_with
      (first
        | (go_at_call 54
           (with_reducible refine (laid_len W1.heap.size [x, y] _ _ 2 _ (x ++ y) N HF.out HN.out rfl HPT.out (by simp) hN2 (by omega)).mono ?_)
           rintro e W6 ⟨a6, cap6, rfl, hl6, b6⟩
           have hx6 : PCk W6 b sz x := CAt.keepB HXA.out b6)
        | (go_at_call 87
           (with_reducible refine (take_len b sz x (x ++ y) a6 N cap6 W6 hx6 hs hs2 HN.out hl6 hN2).mono ?_)
           rintro e W7 ⟨rfl, hp7, g7⟩))
    all_goals
      have g6 : W1.grownBy W6 none := gb_trans (gb_drew (gb_alloc (gb_refl W1 none) (.cells #[.slice a x.length cap, .slice a2 y.length cap2] 53))) (gb_below b6)
      have G7 : w.grownBy W7 (some b) := gb_trans (gb_none (gb_trans (gb_below b1) g6) _) g7
      have HY7 := Lib.hid (CAt.keep (CAt.keepN (CAt.keepB HY.out b1) g6) g7 (Ne.symm hne) (CAt.no hx6 (by decide)))
      have HB7 := Lib.hid hp7
      clear g6 g7 hp7 hx6 hl6 b6 HXA HPT c1 c2 b1 HX HY HCX HCY HLX HLY heq hb1
      rcases tookE_cases sz (x ++ y) with ⟨e0, _, eL⟩ | ⟨e2, eL⟩
      · have HE := Lib.hid (show joinE sz x y = 0 from by unfold joinE; rw [HM.out, e0]; rfl)
        have HL := Lib.hid (eL x)
        rw [e0]
        clear e0 eL
        obtain ⟨a7, cap7, hc7, hl7⟩ := HY7.out
        have c7 : W7.cell? ⟨o, 1, none⟩ = some (.slice a7 y.length cap7) := by rw [cell_of hc7]; rfl
        have f7 := frozen_of (o := 1) hc7
        have HC7 := Lib.hid hc7
        clear hc7 hl7
        go_wp2
        go_ret
        refine ⟨by rw [HE.out]; rfl, ?_, ?_, TwoOnly.of G7 (gb_set (gb_refl _ _) _ _)⟩
        · unfold joinL
          rw [if_pos HE.out, ← HL.out]
          exact CAt.keep HB7.out (gb_set (gb_refl _ _) _ _) hne (noSamp_of HC7.out (by decide))
        · unfold joinR
          rw [if_pos HE.out]
          exact CAt.set (z := []) HC7.out (Lst.nil _) (by decide)
      · have HE := Lib.hid (show joinE sz x y = 2 from by unfold joinE; rw [HM.out, e2]; rfl)
        have HL := Lib.hid (eL x)
        rw [e2]
        clear e2 eL
        go_wp2
        go_ret
        refine ⟨by rw [HE.out]; rfl, ?_, ?_, TwoOnly.of G7 (gb_refl _ _)⟩
        · unfold joinL
          rw [if_neg (by rw [HE.out]; decide), ← HL.out]
          exact HB7.out
        · unfold joinR
          rw [if_neg (by rw [HE.out]; decide)]
          exact HY7.out
  · have HM := Lib.hid hm
    clear hm
    go_enter Tryz.func93, Tryz.ntmps93
    go_wp2_with fail
    refine (isNone_no b sz _ _ HCX.out hs).mono ?_
    rintro e w' ⟨rfl, rfl⟩
    go_wp2_with fail
    refine (isNone_no o so _ _ HCY.out hso).mono ?_
    rintro e w' ⟨rfl, rfl⟩
    go_wp2_with fail
    refine (follows_ok o b so sz y x _ HY.out HX.out hso hs hsy hsx).mono ?_
    rintro e W1 ⟨rfl, b1⟩
    rw [HM.out]
    have HE := Lib.hid (show joinE sz x y = 1 from by unfold joinE; rw [HM.out]; rfl)
    clear heq
    go_wp2
    go_ret
    refine ⟨by rw [HE.out]; rfl, ?_, ?_, TwoOnly.of (gb_below b1) (gb_refl _ _)⟩
    · unfold joinL
      rw [if_neg (by rw [HE.out]; decide)]
      exact CAt.keepB HX.out b1
    · unfold joinR
      rw [if_neg (by rw [HE.out]; decide)]
      exact CAt.keepB HY.out b1

end Go.Proofs.YtpbhdlhbcfkhfaaGreat
