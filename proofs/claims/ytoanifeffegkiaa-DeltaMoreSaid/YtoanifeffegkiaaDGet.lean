/-
  Contracts of the functions of package delta that read a number's code: getOnes, getCode, goBack, Get.
  A Reader of Read's, wherever it stands: what is told is what 'gets' says of the bits that are left; with an error it stands where it stood.
-/
import Derived.Test.YtoanifeffegkiaaDCode
namespace Go.Proofs.Ytoanifeffegkiaa
open Go.RowKit
set_option linter.unusedVariables false
set_option linter.unusedSimpArgs false

theorem num_one (bs : List Bool) (q : Nat) (h : q < bs.length) : num ((bs.drop q).take 1) = (bs.getD q false).toNat := by
  have e : (bs.drop q).take 1 = [bs[q]] := by
    rw [List.drop_eq_getElem_cons h]; rfl
  rw [e, List.getD_eq_getElem?_getD, List.getElem?_eq_getElem h, Option.getD_some]
  cases bs[q] <;> rfl
theorem getD_drop (bs : List Bool) (p j : Nat) : (bs.drop p).getD j false = bs.getD (p + j) false := by
  rw [List.getD_eq_getElem?_getD, List.getElem?_drop, List.getD_eq_getElem?_getD]

def OnesP (b : Nat) (bs : List Bool) (p k : Nat) (w : World) (e : Ending) (w' : World) : Prop :=
  e = .returned (.tuple #[.int .i64 (k : Int), .int .i64 0]) ∧ RdAt w' b bs (p + headN k) ∧ w.grownBy w' (some b)
def ShortP (b : Nat) (bs : List Bool) (w : World) (e : Ending) (w' : World) : Prop :=
  e = .returned (.tuple #[.int .i64 0, .int .i64 3]) ∧ (∃ q, RdAt w' b bs q) ∧ w.grownBy w' (some b)

set_option maxHeartbeats 800000 in
theorem ones_ok (b : Nat) (bs : List Bool) (p k : Nat) (w : World) (hr : RdAt w b bs p) (hk : leadK (bs.drop p) = k) (hs : k < 4 → p + k < bs.length) :
    Calls Try.prog 54 #[.pointer (some ⟨b, 0, none⟩)] w (OnesP b bs p k w) := by
  have hle := hr.le
  have h4 : k ≤ 4 ∧ k ≤ bs.length - p := by have := leadK_le (bs.drop p); rw [hk] at this; simpa using this
  have HT : Hid (∀ i, i < k → bs.getD (p + i) false = true) := by
    intro i hi
    have := leadK_true (bs.drop p) i (by rw [hk]; exact hi)
    rwa [getD_drop] at this
  have HF : Hid (k < 4 → bs.getD (p + k) false = false) := by
    intro h
    have := leadK_false (bs.drop p) (by rw [hk]; exact h)
    rwa [hk, getD_drop] at this
  have HR := Lib.hid hr
  clear hr hk
  go_enter Try.func54, Try.ntmps54
  go_wp2
  go_loopw [7] (fun t wr => ∃ j : Nat, j ≤ k ∧ t = .int .i64 (j : Int) ∧ RdAt wr b bs (p + j) ∧ w.grownBy wr (some b)) (fun t _ => 4 - (intOf t).toNat)
  case atStart => exact ⟨0, Nat.zero_le _, rfl, HR.out, gb_refl _ _⟩
  case round =>
    obtain ⟨j, hj, rfl, hr, g⟩ := hrel
    by_cases hj4 : j < 4
    · by_cases hjk : j < k
      · have HN := Lib.hid (show num ((bs.drop (p + j)).take 1) = 1 from by rw [num_one bs (p + j) (by omega), HT.out j hjk]; rfl)
        go_wp2_with fail
        refine (get_okI b bs (p + j) 1 _ hr (by omega) (by omega) (by simp; omega)).mono ?_
        rintro e W2 ⟨rfl, hr2, g2⟩
        rw [show (1 : Int).toNat = 1 from rfl] at hr2 ⊢
        rw [HN.out]
        clear hr
        go_wp2
        go_roundw
        case rel => exact ⟨j + 1, by omega, by go_num, hr2, gb_trans g g2⟩
        case measure => simp [intOf]; omega
      · obtain rfl : j = k := by omega
        have hlt := hs hj4
        have HN := Lib.hid (show num ((bs.drop (p + j)).take 1) = 0 from by rw [num_one bs (p + j) hlt, HF.out hj4]; rfl)
        have HH := Lib.hid (show headN j = j + 1 from by unfold headN; omega)
        clear hs
        go_wp2_with fail
        refine (get_okI b bs (p + j) 1 _ hr (by omega) (by omega) (by simp; omega)).mono ?_
        rintro e W2 ⟨rfl, hr2, g2⟩
        rw [show (1 : Int).toNat = 1 from rfl] at hr2 ⊢
        rw [HN.out]
        clear hr
        go_wp2
        go_ret2
        exact ⟨rfl, by rw [HH.out, ← Nat.add_assoc]; exact hr2, gb_trans g g2⟩
    · obtain rfl : j = 4 := by omega
      obtain rfl : k = 4 := by omega
      clear hs
      go_wp2
      go_ret2
      exact ⟨rfl, hr, g⟩

set_option maxHeartbeats 800000 in
theorem ones_short (b : Nat) (bs : List Bool) (p k : Nat) (w : World) (hr : RdAt w b bs p) (hk : leadK (bs.drop p) = k) (h4 : k < 4) (hs : p + k = bs.length) :
    Calls Try.prog 54 #[.pointer (some ⟨b, 0, none⟩)] w (ShortP b bs w) := by
  have hle := hr.le
  have HT : Hid (∀ i, i < k → bs.getD (p + i) false = true) := by
    intro i hi
    have := leadK_true (bs.drop p) i (by rw [hk]; exact hi)
    rwa [getD_drop] at this
  have HR := Lib.hid hr
  have HS := Lib.hid hs
  clear hr hk hs
  go_enter Try.func54, Try.ntmps54
  go_wp2
  go_loopw [7] (fun t wr => ∃ j : Nat, j ≤ k ∧ t = .int .i64 (j : Int) ∧ RdAt wr b bs (p + j) ∧ w.grownBy wr (some b)) (fun t _ => 4 - (intOf t).toNat)
  case atStart => exact ⟨0, Nat.zero_le _, rfl, HR.out, gb_refl _ _⟩
  case round =>
    obtain ⟨j, hj, rfl, hr, g⟩ := hrel
    have hj4 : j < 4 := by omega
    by_cases hjk : j < k
    · have hlt : p + j < bs.length := by have := HS.out; omega
      have HN := Lib.hid (show num ((bs.drop (p + j)).take 1) = 1 from by rw [num_one bs (p + j) hlt, HT.out j hjk]; rfl)
      go_wp2_with fail
      refine (get_okI b bs (p + j) 1 _ hr (by omega) (by omega) (by simp; omega)).mono ?_
      rintro e W2 ⟨rfl, hr2, g2⟩
      rw [show (1 : Int).toNat = 1 from rfl] at hr2 ⊢
      rw [HN.out]
      clear hr
      go_wp2
      go_roundw
      case rel => exact ⟨j + 1, by omega, by go_num, hr2, gb_trans g g2⟩
      case measure => simp [intOf]; omega
    · obtain rfl : j = k := by omega
      have hlt : bs.length < p + j + 1 := by have := HS.out; omega
      go_wp2_with fail
      refine (get_shortI b bs (p + j) 1 _ hr (by omega) (by omega) (by simp; omega)).mono ?_
      rintro e W2 ⟨rfl, d2⟩
      have hr2 := hr.keep (d2.gb none) (by simp)
      have g2 := d2.gb (some b)
      clear hr d2
      go_wp2
      go_ret2
      exact ⟨rfl, ⟨_, hr2⟩, gb_trans g g2⟩

/-- What getCode tells: with 0 the Reader stands behind the code, else anywhere. -/
def CodeP (b : Nat) (bs : List Bool) (p : Nat) (u n : Nat) (er : Int) (w : World) (e : Ending) (w' : World) : Prop :=
  e = .returned (.tuple #[.int .u64 (u : Int), .int .i64 er]) ∧ (∃ q, RdAt w' b bs q ∧ (er = 0 → q = p + n)) ∧ w.grownBy w' (some b)

set_option maxHeartbeats 800000 in
theorem code_any (b : Nat) (bs : List Bool) (p u n : Nat) (er : Int) (w : World) (hr : RdAt w b bs p) (hg : gets (bs.drop p) = (u, n, er)) :
    Calls Try.prog 43 #[.pointer (some ⟨b, 0, none⟩)] w (CodeP b bs p u n er w) := by
  have hle := hr.le
  obtain ⟨k, hk⟩ : ∃ k, leadK (bs.drop p) = k := ⟨_, rfl⟩
  have h4 : k ≤ 4 ∧ k ≤ bs.length - p := by have := leadK_le (bs.drop p); rw [hk] at this; simpa using this
  have hdl : (bs.drop p).length = bs.length - p := by simp
  have hw := wid_le k
  have hh : headN k ≤ 4 := by unfold headN; omega
  unfold gets at hg
  rw [hk, hdl, List.drop_drop] at hg
  by_cases hs1 : k < 4 ∧ k = bs.length - p
  · rw [if_pos hs1] at hg
    simp only [Prod.mk.injEq] at hg
    obtain ⟨rfl, rfl, rfl⟩ := hg
    have hc := ones_short b bs p k w hr hk hs1.1 (by omega)
    clear hr hk hdl hs1
    go_enter Try.func43, Try.ntmps43
    go_wp2_with fail
    refine hc.mono ?_
    rintro e W2 ⟨rfl, ⟨q, hr2⟩, g2⟩
    clear hc
    go_wp2
    go_ret2
    exact ⟨rfl, ⟨q, hr2, by simp⟩, g2⟩
  · rw [if_neg hs1] at hg
    have hc := ones_ok b bs p k w hr hk (by omega)
    clear hk hdl
    by_cases hs2 : bs.length - p < headN k + wid k
    · rw [if_pos hs2] at hg
      simp only [Prod.mk.injEq] at hg
      obtain ⟨rfl, rfl, rfl⟩ := hg
      have hs3 : bs.length < p + headN k + wid k := by omega
      clear hr hs2 hs1
      go_enter Try.func43, Try.ntmps43
      go_wp2_with fail
      refine hc.mono ?_
      rintro e W2 ⟨rfl, hr2, g2⟩
      clear hc
      go_wp2_with fail
      refine (width_any k _ h4.1).mono ?_
      rintro e w' ⟨rfl, rfl⟩
      generalize wid k = m at *
      go_wp2_with fail
      refine (get_short b bs _ m _ hr2 hw hs3).mono ?_
      rintro e W3 ⟨rfl, d3⟩
      have hr3 := hr2.keep (d3.gb none) (by simp)
      have g3 := d3.gb (some b)
      clear hr2 d3
      go_wp2
      go_ret2
      exact ⟨rfl, ⟨_, hr3, by simp⟩, gb_trans g2 g3⟩
    · rw [if_neg hs2] at hg
      have hs3 : p + headN k + wid k ≤ bs.length := by omega
      obtain ⟨v, hv⟩ : ∃ v, num ((bs.drop (p + headN k)).take (wid k)) = v := ⟨_, rfl⟩
      have hvl : v < 18446744073709551616 := by rw [← hv]; exact num_take_lt64 bs _ _ hw
      rw [hv] at hg
      have HV := Lib.hid hv
      have HG := Lib.hid hg
      clear hr hs2 hs1 hv hg
      go_enter Try.func43, Try.ntmps43
      go_wp2_with fail
      refine hc.mono ?_
      rintro e W2 ⟨rfl, hr2, g2⟩
      clear hc
      go_wp2_with fail
      refine (width_any k _ h4.1).mono ?_
      rintro e w' ⟨rfl, rfl⟩
      obtain ⟨m, hm⟩ : ∃ m, wid k = m := ⟨_, rfl⟩
      rw [hm] at hs3 hw HV HG ⊢
      clear hm
      go_wp2_with fail
      refine (get_ok b bs _ m _ hr2 hw hs3).mono ?_
      rintro e W3 ⟨rfl, hr3, g3⟩
      rw [HV.out]
      clear hr2
      have HO := Lib.hid (show ((onesN v : Int) != (k : Int)) = !(onesN v == k) from by
        by_cases h : onesN v = k
        · rw [h]; simp
        · have : ¬ ((onesN v : Int) = (k : Int)) := by omega
          rw [bne_iff_ne.2 this, beq_eq_false_iff_ne.2 h]; rfl)
      by_cases ho : onesN v = k
      · have HG' := HG.out
        rw [if_pos ho] at HG'
        simp only [Prod.mk.injEq] at HG'
        obtain ⟨rfl, rfl, rfl⟩ := HG'
        have hne : ((onesN v : Int) != (k : Int)) = false := by rw [HO.out, ho]; simp
        clear HO HG HV
        have HOO := Lib.hid ho
        clear ho
        go_wp2_with fail
        refine (onesOf_any v _ hvl).mono ?_
        rintro e w' ⟨rfl, rfl⟩
        generalize onesN v = ov at *
        go_wp2
        go_ret2
        exact ⟨rfl, ⟨_, hr3, fun _ => by rw [Nat.add_assoc]⟩, gb_trans g2 g3⟩
      · have HG' := HG.out
        rw [if_neg ho] at HG'
        simp only [Prod.mk.injEq] at HG'
        obtain ⟨rfl, rfl, rfl⟩ := HG'
        have hne : ((onesN v : Int) != (k : Int)) = true := by rw [HO.out, beq_eq_false_iff_ne.2 ho]; rfl
        clear HO HG HV ho
        go_wp2_with fail
        refine (onesOf_any v _ hvl).mono ?_
        rintro e w' ⟨rfl, rfl⟩
        generalize onesN v = ov at *
        go_wp2
        go_ret2
        exact ⟨rfl, ⟨_, hr3, by simp⟩, gb_trans g2 g3⟩

def BackP (b : Nat) (bs : List Bool) (p : Nat) (w : World) (e : Ending) (w' : World) : Prop :=
  e = .returned (.tuple #[]) ∧ RdAt w' b bs p ∧ w.grownBy w' (some b)

set_option maxHeartbeats 800000 in
theorem back_any (b : Nat) (bs : List Bool) (p q : Nat) (w : World) (hr : RdAt w b bs q) (hp : p ≤ bs.length) :
    Calls Try.prog 44 #[.pointer (some ⟨b, 0, none⟩), .int .i64 ((bs.length : Int) - p)] w (BackP b bs p w) := by
  have hle := hr.le
  go_enter Try.func44, Try.ntmps44
  go_wp2_with fail
  refine (seek_okI b bs q 0 _ hr (by omega) (by simp)).mono ?_
  rintro e W2 ⟨rfl, hr2, g2⟩
  clear hr
  rw [show (0 : Int).toNat = 0 from rfl] at hr2
  go_wp2_with fail
  refine (left_any b bs 0 _ hr2).mono ?_
  rintro e W3 ⟨rfl, d3⟩
  have hr3 := hr2.keep (d3.gb none) (by simp)
  have g3 := gb_trans g2 (d3.gb (some b))
  clear hr2 d3 g2
  rw [show ((bs.length : Int) - ((0 : Nat) : Int)) = (bs.length : Int) from by simp]
  go_wp2_with fail
  refine (seek_okI b bs 0 _ _ hr3 (by omega) (by omega)).mono ?_
  rintro e W4 ⟨rfl, hr4, g4⟩
  have hr5 : RdAt W4 b bs p := by
    rw [show ((bs.length : Int) - ((bs.length : Int) - (p : Int))).toNat = p from by omega] at hr4; exact hr4
  clear hr3 hr4
  go_wp2
  go_end0
  exact ⟨rfl, hr5, gb_trans g3 g4⟩

/-- What Get tells, and where the Reader stands then. -/
def DGetP (b : Nat) (bs : List Bool) (p : Nat) (u n : Nat) (er : Int) (w : World) (e : Ending) (w' : World) : Prop :=
  e = .returned (.tuple #[.int .u64 (u : Int), .int .i64 er]) ∧ RdAt w' b bs (p + n) ∧ w.grownBy w' (some b)

set_option maxHeartbeats 800000 in
theorem dget_any (b : Nat) (bs : List Bool) (p u n : Nat) (er : Int) (w : World) (hr : RdAt w b bs p) (hg : gets (bs.drop p) = (u, n, er)) :
    Calls Try.prog 26 #[.pointer (some ⟨b, 0, none⟩)] w (DGetP b bs p u n er w) := by
  have hle := hr.le
  have HE := Lib.hid (gets_err hg)
  have HG := Lib.hid hg
  clear hg
  go_enter Try.func26, Try.ntmps26
  go_wp2_with fail
  refine (left_any b bs p _ hr).mono ?_
  rintro e W2 ⟨rfl, d2⟩
  have hr2 := hr.keep (d2.gb none) (by simp)
  have g2 := d2.gb (some b)
  clear hr d2
  go_wp2_with fail
  refine (code_any b bs p u n er _ hr2 HG.out).mono ?_
  rintro e W3 ⟨rfl, ⟨q, hr3, hq⟩, g3⟩
  have g4 := gb_trans g2 g3
  have HQ := Lib.hid hq
  clear hr2 g2 g3 hq
  by_cases he : er = 0
  · subst he
    obtain rfl := HQ.out rfl
    go_wp2
    go_ret2
    exact ⟨rfl, hr3, g4⟩
  · obtain ⟨rfl, rfl, h34⟩ : u = 0 ∧ n = 0 ∧ (er = 3 ∨ er = 4) := by
      rcases HE.out with h | h
      · exact absurd h he
      · exact h
    have hne : (er != 0) = true := bne_iff_ne.2 he
    clear he HE HQ HG
    go_wp2_with fail
    refine (back_any b bs p q _ hr3 hle.1).mono ?_
    rintro e W5 ⟨rfl, hr5, g5⟩
    have g6 := gb_trans g4 g5
    clear hr3 g4 g5
    go_wp2
    go_ret2
    exact ⟨rfl, hr5, g6⟩

set_option maxHeartbeats 800000 in
theorem dget_no (w : World) (v : Value) (h : NoRd w v) :
    Calls Try.prog 26 #[v] w fun e w' => e = .returned (.tuple #[.int .u64 0, .int .i64 11]) ∧ w = w' := by
  go_enter Try.func26, Try.ntmps26
  go_wp2_with fail
  refine (left_no _ _ h).mono ?_
  rintro e w' ⟨rfl, rfl⟩
  go_wp2_with fail
  have hc : Calls Try.prog 43 #[v] w fun e w' => e = .returned (.tuple #[.int .u64 0, .int .i64 11]) ∧ w = w' := by
    go_enter Try.func43, Try.ntmps43
    go_wp2_with fail
    have hc : Calls Try.prog 54 #[v] w fun e w' => e = .returned (.tuple #[.int .i64 0, .int .i64 11]) ∧ w = w' := by
      go_enter Try.func54, Try.ntmps54
      go_wp2
      go_loopw [7] (fun t wr => t = .int .i64 0 ∧ wr = w) (fun t _ => 0)
      case atStart => exact ⟨rfl, rfl⟩
      case round =>
        obtain ⟨rfl, rfl⟩ := hrel
        go_wp2_with fail
        refine (get_no _ _ _ h).mono ?_
        rintro e w' ⟨rfl, rfl⟩
        go_wp2
        go_ret2
        exact ⟨rfl, rfl⟩
    refine hc.mono ?_
    rintro e w' ⟨rfl, rfl⟩
    clear hc
    go_wp2
    go_ret2
    exact ⟨rfl, rfl⟩
  refine hc.mono ?_
  rintro e w' ⟨rfl, rfl⟩
  clear hc
  go_wp2_with fail
  have hc : Calls Try.prog 44 #[v, .int .i64 0] w fun e w' => e = .returned (.tuple #[]) ∧ w = w' := by
    go_enter Try.func44, Try.ntmps44
    go_wp2_with fail
    refine (seek_no _ _ _ h).mono ?_
    rintro e w' ⟨rfl, rfl⟩
    go_wp2_with fail
    refine (left_no _ _ h).mono ?_
    rintro e w' ⟨rfl, rfl⟩
    go_wp2_with fail
    refine (seek_no _ _ _ h).mono ?_
    rintro e w' ⟨rfl, rfl⟩
    go_wp2
    go_end0
    exact ⟨rfl, rfl⟩
  refine hc.mono ?_
  rintro e w' ⟨rfl, rfl⟩
  clear hc
  go_wp2
  go_ret2
  exact ⟨rfl, rfl⟩

end Go.Proofs.Ytoanifeffegkiaa
